/-
  THE WALK OF quadrigalaw06.AreaPlays: it returns true, and writes nothing that was there.
-/
import Derived.Test.YtckhdknehdjhoaaDoorArPlB
import Derived.Deep.Cut
import Derived.Deep.CutRange
import Derived.Deep.DeepCutAuto
import Derived.Deep.CutBlock
import Derived.Deep.RegionHeld3
import Derived.StillTailTactics
import Derived.IntWalk
namespace Go.Proofs.YtckhdknehdjhoaaDoor
open Go.RowKit
theorem i64_wf {n : Int} (h : (Lit.int .i64 n).wf = true) : -9223372036854775808 ≤ n ∧ n ≤ 9223372036854775807 := by
  simp [Lit.wf, IntKind.min, IntKind.max, IntKind.signed, IntKind.bits] at h
  omega
set_option maxRecDepth 100000 in
set_option maxHeartbeats 4000000 in
theorem areaPlays_walk (S F : Int) (M0 : Int) (hS : (Lit.int .i64 S).wf = true) (hF : (Lit.int .i64 F).wf = true) (hM : (Lit.int .i64 M0).wf = true) (a : Option Addr) (A : List Aa) (cap : Nat) (w : World) (hn : A.length ≤ maxLen) (ha : AasAt w a A) :
    Calls Tryd.prog 3 #[.int .i64 S, .int .i64 F, .int .i64 M0, .slice a A.length cap] w fun e w' => e = .returned (.bool true) ∧ Below w.heap.size w w' := by
  have KG := Lib.hid (great6_any a A cap w hn ha)
  have HA := Lib.hid ha; clear ha
  have KA := Lib.hid (awake6_any w)
  unfold maxLen at hn
  have wS := i64_wf hS
  have wF := i64_wf hF
  have wM := i64_wf hM
  clear hS hF hM
  obtain ⟨wS0, wS1⟩ := wS
  obtain ⟨wF0, wF1⟩ := wF
  obtain ⟨wM0, wM1⟩ := wM
  cases hg : great6B A with
  | true =>
    rw [hg] at KG
    go_enter Tryd.func3, Tryd.ntmps3
    go_wp2_with fail
    refine KG.out.mono ?_
    rintro e w1 ⟨rfl, rfl⟩
    go_wp2_with fail
    refine KA.out.mono ?_
    rintro e w1 ⟨rfl, hb⟩
    go_wp2
    go_ret
    exact ⟨rfl, hb⟩
  | false =>
    obtain ⟨h30, h10⟩ := great6B_no hg
    have H10 := Lib.hid h10; clear h10
    rw [hg] at KG
    clear hg
    by_cases hbig : 20 < S ∧ S ≤ 4096
    · obtain ⟨x1, x2⟩ := hbig
      go_enter Tryd.func3, Tryd.ntmps3
      go_wp2_with fail
      refine KG.out.mono ?_
      rintro e w1 ⟨rfl, rfl⟩
      go_wp2_with fail
      refine KA.out.mono ?_
      rintro e w1 ⟨rfl, hb⟩
      go_wp2
      go_ret
      exact ⟨rfl, hb⟩
    by_cases hno : S < 1 ∨ 4096 < S
    · have KD := Lib.hid (fun W => dnew_no S W hno)
      have KN := Lib.hid (fun W => anew_no (S := 0) (.pointer none) W (Lib.hid (sectors_nil W)) ⟨by omega, by omega⟩ F M0 (by omega) (by omega))
      by_cases h1 : S ≤ 20
      · clear hbig hno
        go_enter Tryd.func3, Tryd.ntmps3
        go_wp2_with fail
        refine KG.out.mono ?_
        rintro e w1 ⟨rfl, rfl⟩
        go_wp2_with fail
        refine KA.out.mono ?_
        rintro e w1 ⟨rfl, hb⟩
        go_wp2_with fail
        refine (KD.out _).mono ?_
        rintro e w2 ⟨rfl, rfl⟩
        go_wp2_with fail
        refine (KN.out _).mono ?_
        rintro e w2 ⟨rfl, rfl⟩
        go_wp2
        go_ret
        exact ⟨rfl, hb⟩
      · have h2 : 20 < S := by omega
        have h3 : 4096 < S := by omega
        clear hbig hno h1
        go_enter Tryd.func3, Tryd.ntmps3
        go_wp2_with fail
        refine KG.out.mono ?_
        rintro e w1 ⟨rfl, rfl⟩
        go_wp2_with fail
        refine KA.out.mono ?_
        rintro e w1 ⟨rfl, hb⟩
        go_wp2_with fail
        refine (KD.out _).mono ?_
        rintro e w2 ⟨rfl, rfl⟩
        go_wp2_with fail
        refine (KN.out _).mono ?_
        rintro e w2 ⟨rfl, rfl⟩
        go_wp2
        go_ret
        exact ⟨rfl, hb⟩
    · obtain ⟨n, rfl⟩ := Int.eq_ofNat_of_zero_le (a := S) (by omega)
      have hn20 : (n : Int) ≤ 20 := by omega
      have hn1 : (1 : Int) ≤ (n : Int) := by omega
      clear hbig hno wS0 wS1
      have KD := Lib.hid (fun W => new_dev n W (by omega) (by omega))
      by_cases hbad : F < 0 ∨ M0 < 1 ∨ (n : Int) - F < M0
      · have KN := Lib.hid (fun D P L M W (h : DevAt W D P L M n 0 false 0 false 0 (List.replicate n blank64) (fun _ => none)) => anew_no (S := (n : Int)) (.pointer (some ⟨D, 0, none⟩)) W (Lib.hid ((sectors_any h).mono fun _ _ hh => (⟨hh.1, hh.2.symm⟩ : _ ∧ _))) ⟨by omega, by omega⟩ F M0 (by omega) hbad)
        go_enter Tryd.func3, Tryd.ntmps3
        go_wp2_with fail
        refine KG.out.mono ?_
        rintro e w1 ⟨rfl, rfl⟩
        go_wp2_with fail
        refine KA.out.mono ?_
        rintro e w1 ⟨rfl, hb⟩
        go_wp2_with fail
        refine (KD.out _).mono ?_
        rintro e w2 ⟨D, P, L, M, rfl, hd, hb2, _, _, _⟩
        go_wp2_with fail
        refine (KN.out D P L M _ hd.out).mono ?_
        rintro e w3 ⟨rfl, rfl⟩
        have hb3 := hb.trans (hb2.out.mono hb.size)
        clear hb hb2 KN KD KG KA hd
        by_cases f0 : F < 0
        · clear hbad
          go_wp2
          go_ret
          exact ⟨rfl, hb3⟩
        have f0 : 0 ≤ F := by omega
        by_cases m0 : M0 < 1
        · clear hbad
          go_wp2
          go_ret
          exact ⟨rfl, hb3⟩
        have m0 : 1 ≤ M0 := by omega
        by_cases s0 : (n : Int) < M0
        · clear hbad
          go_wp2
          go_ret
          exact ⟨rfl, hb3⟩
        have s0 : M0 ≤ (n : Int) := by omega
        have s1 : (n : Int) - M0 < F := by omega
        clear hbad
        go_wp2
        go_ret
        exact ⟨rfl, hb3⟩
      · obtain ⟨first, rfl⟩ := Int.eq_ofNat_of_zero_le (a := F) (by omega)
        obtain ⟨count, rfl⟩ := Int.eq_ofNat_of_zero_le (a := M0) (by omega)
        have hc1 : (1 : Int) ≤ (count : Int) := by omega
        have hc2 : (count : Int) ≤ (n : Int) := by omega
        have hf1 : (first : Int) ≤ (n : Int) - (count : Int) := by omega
        have hfn : first + count ≤ n ∧ n ≤ 20 := ⟨by omega, by omega⟩
        clear hbad wF0 wF1 wM0 wM1
        go_enter Tryd.func3, Tryd.ntmps3
        go_wp2_with fail
        refine KG.out.mono ?_
        rintro e w1 ⟨rfl, rfl⟩
        go_wp2_with fail
        refine KA.out.mono ?_
        rintro e w1 ⟨rfl, hb⟩
        have HB1 := Lib.hid hb; clear hb KG KA
        go_wp2_with fail
        refine (KD.out _).mono ?_
        rintro e w2 ⟨D, P, L, M, rfl, hd, hb, q1, q2, q3⟩
        clear KD
        obtain ⟨l1, l2, l3⟩ := hd.out.lts
        have l4 : M < w2.heap.size := by
          obtain ⟨_, hM, _⟩ := hd.out.mp
          exact hM.lt
        have hs1 := HB1.out.size
        have HB2 := Lib.hid (HB1.out.trans (hb.out.mono hs1))
        have hs2 := HB2.out.size
        have KN := Lib.hid (anew_any (first := first) (count := count) hd.out (by omega) ⟨by omega, by omega⟩)
        clear hb HB1
        go_wp2_with fail
        refine KN.out.mono ?_
        rintro e w3 ⟨rfl, har, hb, hsz⟩
        clear KN
        have hlt3 : w2.heap.size < w3.heap.size := by omega
        clear hsz
        have HB3 := Lib.hid (HB2.out.trans (hb.out.mono hs2))
        have hs3 := HB3.out.size
        have hd3 := Lib.hid (hd.out.below hb.out)
        have KL := Lib.hid (alen_any har.out)
        have e64 : ((64 * count : Nat) : Int) = 64 * (count : Int) := by omega
        rw [e64] at KL
        have HF0 : Hid (okf n (fun _ => none)) := fun _ _ h => by cases h
        have KB := Lib.hid (blank_area hd3.out har.out HF0.out hfn (bytes_new n first count hfn.1))
        rw [decide_eq_true (rfl : List.replicate (64 * count) (0 : UInt8) = List.replicate (64 * count) 0)] at KB
        clear hb HB2 hd e64
        generalize w2.heap.size = Ar at *
        go_wp2_with fail
        refine KL.out.mono ?_
        rintro e w4 ⟨rfl, rfl⟩
        go_wp2_with fail
        refine KB.out.mono ?_
        rintro e w5 ⟨rfl, hb⟩
        clear KL KB
        have HB4 := Lib.hid (HB3.out.trans (hb.mono hs3))
        have hd4 := Lib.hid (hd3.out.below hb)
        have ha4 := Lib.hid (har.out.below hb)
        have hs4 := hb.size
        clear hb HB3 hd3 har
        obtain ⟨B, hB⟩ : ∃ B, B = w5.heap.size := ⟨_, rfl⟩
        obtain ⟨ib, hi, hzz⟩ := Option.map_eq_some_iff.1 infoB
        simp only [Prod.mk.injEq] at hzz
        obtain ⟨hz0, hz1, hz2⟩ := hzz
        go_wp2_with (at_make; refine wpList_make_full _ rfl _ _ 30 rfl w5.heap.size 5 ib (.int .u8 0) 1 Tryd.underlying30 hi hz0 hz1 _ _ _ _ (64 * count) rfl rfl ?b1 ?b1' ?b2 ?b3 (Nat.le_refl _) ?_)
        case b1 => omega
        case b1' => omega
        case b2 => rw [hz2]; omega
        case b3 => unfold maxLen; omega
        intro w6 hown hgr
        obtain ⟨N0, hN0⟩ : ∃ N : List UInt8, N = List.replicate (64 * count) 0 := ⟨_, rfl⟩
        have hN0l : N0.length = 64 * count := by rw [hN0, List.length_replicate]
        have hb6 : Below w5.heap.size w5 w6 := (Below.refl _ w5).grown hgr (Nat.le_refl _) (fun k hk => by cases hk)
        have hown2 : RowB w6 B (.slice (some ⟨B, 0, none⟩) N0.length N0.length) N0 := by
          have e : (madeCells #[Value.int .u8 0] (64 * count)).toList = Lib.byteCells N0 := by
            rw [hN0, toList_madeCells_one]
            unfold Lib.byteCells
            rw [List.map_replicate]; rfl
          rw [e] at hown
          unfold RowB
          rw [hN0l, hB]; exact hown
        obtain ⟨las0, hlas0⟩ : ∃ l, l = List.replicate n blank64 := ⟨_, rfl⟩
        have T0 : Hid (Ap w w6 B Ar D P L M n first count 0 0 0 0 las0 (fun _ => none) N0 B) :=
          { d := by rw [hlas0]; exact hd4.out.below hb6, a := ha4.out.below hb6, nn := hfn, u := ⟨by omega, by omega⟩, k := by omega, fo := HF0.out
            by' := by rw [hN0, hlas0]; exact bytes_new n first count hfn.1
            out := fun j hj _ => by
              rw [hlas0]
              show (List.replicate n blank64).getD j blank64 = _
              rw [List.getD_eq_getElem?_getD, List.getElem?_replicate]; split <;> rfl
            bw := HB4.out.trans (hb6.mono HB4.out.size), lo := ⟨by omega, by omega, by omega⟩, na := ⟨by omega, by omega, by omega⟩, hi := ⟨by omega, by omega, by omega, by omega, by omega⟩, b := ⟨by have := HB4.out.size; omega, Nat.le_refl _⟩, sz := by rw [hB]; exact hb6.size, row := hown2 }
        clear hown hgr hb6 hown2 hd4 ha4 HB4 HF0 hN0 hlas0 hi hz0 hz1 hz2 l1 l2 l3 l4 q1 q2 q3 hs1 hs2 hs3 hs4 hlt3
        rw [← hB]
        obtain ⟨g, hgB⟩ : ∃ g, g = B := ⟨_, rfl⟩
        rw [show Ap w w6 B Ar D P L M n first count 0 0 0 0 las0 (fun _ => none) N0 B = Ap w w6 B Ar D P L M n first count 0 0 0 0 las0 (fun _ => none) N0 g by rw [hgB]] at T0
        rw [← hgB]
        clear hB hgB hN0l
        generalize (fun _ => none : Int → Option (List UInt8)) = f0 at T0
        go_wp2
        go_loopw [12] (fun i wr => ∃ (q : Nat) (u : Int) (k : Nat) (las : List (List UInt8)) (f : Int → Option (List UInt8)) (N : List UInt8), q ≤ A.length ∧ i = .int .i64 q ∧ Hid (Ap w wr B Ar D P L M n first count (2001 * q) u 0 k las f N g)) (fun i _ => A.length - (intOf i).toNat)
        case atStart => exact ⟨0, _, _, _, _, _, by omega, rfl, T0⟩
        case round =>
          obtain ⟨q, u, k, las, f, N, hq, rfl, T1⟩ := hrel
          rename World => wa
          clear T0
          by_cases hlt : q < A.length
          · have hq0 : (0 : Int) ≤ (q : Int) := by omega
            have hq1 : (q : Int) < (A.length : Int) := by omega
            obtain ⟨b, off, rfl, hcells, _⟩ := (HA.out.below T1.out.bw).at hlt
            have hok := HA.out.1 _ (mem_getA hlt)
            have h61 := H10.out _ (mem_getA hlt)
            generalize A.getD q noAa = z at hcells hok h61
            obtain ⟨h6, h2000, h40⟩ := h61
            obtain ⟨c0, c1, c2, c3, c4⟩ := hcells
            have KJ := Lib.hid (fun W1 (hb : Below w.heap.size w W1) => join6_any z.da z.dl z.dc W1 (by omega) (hok.ds.below hb) hok.dz)
            have hbx : Below wa.heap.size wa (wa.alloc (.cells #[.int .i64 z.k, .int .i64 z.n, .int .i64 z.o, .slice z.da z.dl.length z.dc, .slice z.ka z.kl.length z.kc] 34)) := (Below.refl _ _).alloc (Nat.le_refl _) _
            have T2 := Lib.hid (T1.out.below hbx)
            have X0 := new_cell (W := wa) (cs := #[.int .i64 z.k, .int .i64 z.n, .int .i64 z.o, .slice z.da z.dl.length z.dc, .slice z.ka z.kl.length z.kc]) (T := 34) (g := wa.heap.size) (i := 0) rfl rfl
            have X1 := new_cell (W := wa) (cs := #[.int .i64 z.k, .int .i64 z.n, .int .i64 z.o, .slice z.da z.dl.length z.dc, .slice z.ka z.kl.length z.kc]) (T := 34) (g := wa.heap.size) (i := 1) rfl rfl
            have X2 := new_cell (W := wa) (cs := #[.int .i64 z.k, .int .i64 z.n, .int .i64 z.o, .slice z.da z.dl.length z.dc, .slice z.ka z.kl.length z.kc]) (T := 34) (g := wa.heap.size) (i := 2) rfl rfl
            have X3 := new_cell (W := wa) (cs := #[.int .i64 z.k, .int .i64 z.n, .int .i64 z.o, .slice z.da z.dl.length z.dc, .slice z.ka z.kl.length z.kc]) (T := 34) (g := wa.heap.size) (i := 3) rfl rfl
            have hgX : g < wa.heap.size := block_lt (p := ⟨g, 0, none⟩) (T1.out.row.cell 0 (by rw [T1.out.len]; have := T1.out.cnt; omega))
            have hBX := T1.out.sz
            have hN := T1.out.len
            have hcnt := T1.out.cnt
            clear T1
            go_wp2_with fail
            refine (KJ.out _ T2.out.bw).mono ?_
            rintro e w7 ⟨rfl, rfl⟩
            clear c0 c1 c2 c3 c4
            generalize wa.alloc (.cells #[.int .i64 z.k, .int .i64 z.n, .int .i64 z.o, .slice z.da z.dl.length z.dc, .slice z.ka z.kl.length z.kc] 34) = wb at *
            generalize wa.heap.size = X at *
            clear KJ hbx
            have hsj : (txt (joined z.dl)).size = (joined z.dl).length := txt_size _
            obtain ⟨tj, htj⟩ : ∃ t, t = txt (joined z.dl) := ⟨_, rfl⟩
            rw [← htj] at hsj ⊢
            have HTJ := Lib.hid htj; clear htj
            obtain ⟨pl, hpl⟩ : ∃ b, b = (decide (0 ≤ z.n) && decide (z.n ≤ 4611686018427387904)) := ⟨_, rfl⟩
            have HPL := Lib.hid hpl; clear hpl
            generalize hzk : z.k = zk at *
            generalize hzn : z.n = zn at *
            generalize hzo : z.o = zo at *
            clear hzk
            go_upto_region 15 with fail
            go_cut [15] from 85 to 247 (fun v wx => v = .bool pl ∧ wx = wb)
            case first =>
              by_cases a0 : 0 ≤ zn
              · by_cases a1 : zn ≤ 4611686018427387904
                · have HP : Hid (pl = true) := by rw [Hid, HPL.out, decide_eq_true a0, decide_eq_true a1]; rfl
                  go_wp2_with fail
                  go_meet
                  exact ⟨by rw [HP.out], rfl⟩
                · have HP : Hid (pl = false) := by rw [Hid, HPL.out, decide_eq_false a1, Bool.and_false]
                  have a1 : 4611686018427387904 < zn := by omega
                  go_wp2_with fail
                  go_meet
                  exact ⟨by rw [HP.out], rfl⟩
              · have HP : Hid (pl = false) := by rw [Hid, HPL.out, decide_eq_false a0]; rfl
                have a0 : zn < 0 := by omega
                go_wp2_with fail
                go_meet
                exact ⟨by rw [HP.out], rfl⟩
            case rest =>
            obtain ⟨rfl, rfl⟩ := hcut
            rename World => wb
            go_upto_block 2 with fail
            go_cut [] from 85 to 247 (fun wx => ∃ (u2 : Int) (k2 : Nat) (las2 : List (List UInt8)) (f2 : Int → Option (List UInt8)) (N2 : List UInt8), Hid (Ap w wx B Ar D P L M n first count (2001 * (q + 1)) u2 0 k2 las2 f2 N2 g))
            case first =>
              have hlen64 : 64 * count ≤ 1280 := by omega
              have hc0 : 1 ≤ count := by omega
              have hwr : Hid (IntKind.i64.wrap (64 * (count : Int)) = 64 * (count : Int)) := IntWalk.i64_in _ (by omega)
              have hXS : Hid (Xs wb X z) := ⟨by rw [hzn]; exact X1, by rw [hzo]; exact X2, X3⟩
              clear X1 X2 X3
              by_cases e0 : zk = 0
              · subst e0
                by_cases hgood : (0 ≤ zn ∧ zn ≤ 4611686018427387904) ∧ ((joined z.dl).length : Int) ≤ ((64 * count : Nat) : Int)
                · as_aux_lemma =>
                    obtain ⟨⟨a0, a1⟩, hl⟩ := hgood
                    have HP : pl = true := by rw [HPL.out, decide_eq_true a0, decide_eq_true a1]; rfl
                    subst HP
                    have hl' : (joined z.dl).length ≤ 64 * count := by omega
                    obtain ⟨at', rfl⟩ := Int.eq_ofNat_of_zero_le a0
                    have KS := Lib.hid (fun (W2 : World) (N2 : List UInt8) (hb2 : Below B wb W2) (hr2 : RowB W2 B (.slice (some ⟨g, 0, none⟩) N2.length N2.length) N2) (e : N2 = stN (64 * count) N at' (joined z.dl)) => ap_set2 T2.out (by omega) hb2 hr2 at' (by omega) z.da z.dl z.dc (by omega) hok.dcp (StrsAt.below' hok.ds T2.out.bw hb2 T2.out.b.1) hok.dz hl' h2000 e)
                    have hr0 := Lib.hid T2.out.row
                    have hBg := T2.out.b.2
                    have hBb := T2.out.sz
                    obtain ⟨p, hp⟩ : ∃ p, p = at' % (64 * count) := ⟨_, rfl⟩
                    have hpl : p < 64 * count := by rw [hp]; exact Nat.mod_lt _ (by omega)
                    have e64 : 64 * (count : Int) = ((64 * count : Nat) : Int) := by omega
                    have hm1 : Int.tmod (at' : Int) (64 * (count : Int)) = (p : Int) := by rw [e64, Int.tmod_eq_emod_of_nonneg (by omega), hp]; rfl
                    have HE64 := Lib.hid e64
                    clear e64
                    have HM1 := Lib.hid hm1
                    have HSt := Lib.hid (fun k hk => stN_succ (64 * count) (joined z.dl) N at' k hk)
                    rw [← hp] at HSt
                    have HTG := Lib.hid (fun k (hk : k < (txt (joined z.dl)).size) => txt_get (joined z.dl) k hk)
                    have R0 : Hid (RowB wb B (.slice (some ⟨g, 0, none⟩) (stN (64 * count) N at' ((joined z.dl).take 0)).length (stN (64 * count) N at' ((joined z.dl).take 0)).length) (stN (64 * count) N at' ((joined z.dl).take 0))) := hr0.out
                    have B0 : Hid (Below B wb wb) := Below.refl _ _
                    have hsl : ∀ k, (stN (64 * count) N at' ((joined z.dl).take k)).length = 64 * count := fun k => by rw [stN_len]; exact hN
                    have HSL := Lib.hid hsl
                    rw [← HTJ.out] at HTG
                    clear hm1 hp T2 HPL hr0 hsl a0
                    have hsj9 : tj.size ≤ 2000 := by omega
                    generalize joined z.dl = dj at *
                    go_wp2_with fail
                    go_loopw [17] (fun i wr => ∃ k : Nat, k ≤ tj.size ∧ i = .int .i64 k ∧ Hid (RowB wr B (.slice (some ⟨g, 0, none⟩) (stN (64 * count) N at' (dj.take k)).length (stN (64 * count) N at' (dj.take k)).length) (stN (64 * count) N at' (dj.take k))) ∧ Hid (Below B wb wr) ∧ Hid (Xs wr X z)) (fun i _ => tj.size - (intOf i).toNat)
                    case atStart => exact ⟨0, by omega, rfl, R0, B0, hXS⟩
                    case round =>
                      obtain ⟨k, hk, rfl, R1, B1, X1⟩ := hrel
                      rename World => wr
                      clear R0 B0 hXS
                      by_cases hlt : k < tj.size
                      · have hk0 : (0 : Int) ≤ (k : Int) := by omega
                        have hk1 : (k : Int) < (tj.size : Int) := by omega
                        have c1 := X1.out.c1
                        rw [hzn] at c1
                        obtain ⟨j, hj⟩ : ∃ j, j = (p + k) % (64 * count) := ⟨_, rfl⟩
                        have hjl : j < 64 * count := by rw [hj]; exact Nat.mod_lt _ (by omega)
                        have hm2 : Int.tmod ((p : Int) + (k : Int)) (64 * (count : Int)) = (j : Int) := by rw [HE64.out, Int.tmod_eq_emod_of_nonneg (by omega), hj]; rfl
                        have hw2 : IntKind.i64.wrap ((p : Int) + (k : Int)) = (p : Int) + (k : Int) := IntWalk.i64_in _ (by omega)
                        have hkd : k < dj.length := by omega
                        have hS1 := HSt.out k hkd
                        have hT1 := HTG.out k hlt
                        rw [← hj, ← hT1] at hS1
                        have DR : Below wr.heap.size wr wr.drew := (Below.refl _ _).drew
                        have R2 := (R1.out.below DR).store j tj[k]
                        have hfz := World.ownsRow.frozenAt R1.out j
                        rw [← hS1] at R2
                        have hcap := (HSL.out k).trans (HSL.out (k + 1)).symm
                        rw [hcap] at R2
                        clear hcap
                        have R3 := Lib.hid R2
                        have B2 := Lib.hid ((B1.out.trans (DR.mono (by have := B1.out.size; omega))).setCell (p := ⟨g, j, none⟩) hBg (.int .u8 tj[k].toNat))
                        have X2 := Lib.hid ((X1.out.below DR).store (G := g) (i := j) (v := .int .u8 tj[k].toNat) (by omega))
                        have hl1 := HSL.out k
                        have hj0 : (0 : Int) ≤ (j : Int) := by omega
                        have hj1 : (j : Int) < 64 * (count : Int) := by omega
                        have hj2 : ((j : Int)).toNat = j := by omega
                        have hnz : ¬ (64 * (count : Int) = 0) := by omega
                        have hcell := R1.out.cell j (by omega)
                        have hwr' := hwr.out
                        have hm1 := HM1.out
                        clear R1 B1 X1 R2 hS1 hT1 hj hl1 HSt DR
                        go_wp2_with fail
                        go_still_tail 14, (by kernel_rfl)
                        change wpList _ _ _ _ _ wr.drew
                        go_wp2
                        go_roundw
                        case rel => exact ⟨k + 1, by omega, by go_num, R3, B2, X2⟩
                        case measure => simp [intOf]; omega
                      · have hke : k = tj.size := by omega
                        have hk1 : (tj.size : Int) ≤ (k : Int) := by omega
                        have c1 := X1.out.c1
                        have c3 := X1.out.c3
                        rw [hzn] at c1
                        have hdj : dj.take k = dj := List.take_of_length_le (by omega)
                        rw [hdj] at R1
                        have KS1 := Lib.hid (KS.out wr _ B1.out R1.out rfl)
                        clear R1 B1 X1 KS hdj HSt
                        go_wp2_with fail
                        refine KS1.out.mono ?_
                        rintro e w5 ⟨rfl, u2, k2, f2, T3⟩
                        go_wp2_with fail
                        go_meet
                        exact ⟨u2, k2, las, f2, _, T3.out.mono (by omega)⟩
                · as_aux_lemma =>
                    have KS := Lib.hid (set_no T2.out.a z.n z.da z.dl z.dc (by omega) (hok.ds.below T2.out.bw) hok.dz (by rw [hzn]; exact hgood))
                    rw [hzn] at KS
                    have c1 := hXS.out.c1
                    have c3 := hXS.out.c3
                    rw [hzn] at c1
                    have HT2 : Hid (∀ w', Below wb.heap.size wb w' → Hid (Ap w w' B Ar D P L M n first count (2001 * (q + 1)) u 0 k las f N g)) := fun w' hb => (T2.out.below hb).mono (by omega)
                    clear T2 hXS
                    have hcl : (pl = false ∧ 0 < tj.size) ∨ (pl = false ∧ tj.size = 0) ∨ (pl = true ∧ 64 * (count : Int) < (tj.size : Int) ∧ 0 < tj.size) := by
                      cases hpl : pl with
                      | false =>
                        by_cases h0 : 0 < tj.size
                        · exact .inl ⟨rfl, h0⟩
                        · exact .inr (.inl ⟨rfl, by omega⟩)
                      | true =>
                        have h1 := HPL.out
                        rw [hpl] at h1
                        have h2 := h1.symm
                        rw [Bool.and_eq_true, decide_eq_true_iff, decide_eq_true_iff] at h2
                        exact .inr (.inr ⟨rfl, by omega, by omega⟩)
                    clear HPL hgood HTJ hsj
                    rcases hcl with ⟨rfl, h0⟩ | ⟨rfl, h0⟩ | ⟨rfl, hbig, h0⟩
                    all_goals
                      go_wp2_with fail
                      go_loopw [17] (fun i wr => i = .int .i64 0 ∧ wr = wb) (fun i _ => 0)
                      case atStart => exact ⟨rfl, rfl⟩
                      case round =>
                        obtain ⟨rfl, hwx⟩ := hrel
                        rename World => wr
                        subst hwx
                        go_wp2_with fail
                        refine KS.out.mono ?_
                        rintro e w5 ⟨rfl, hb⟩
                        go_wp2_with fail
                        go_meet
                        exact ⟨u, k, las, f, N, HT2.out _ hb⟩
              · have e0 : (zk == 0) = false := by rw [beq_eq_false_iff_ne]; exact e0
                by_cases e1 : zk = 1
                · subst e1
                  have c1 := hXS.out.c1
                  have c2 := hXS.out.c2
                  rw [hzn] at c1
                  rw [hzo] at c2
                  by_cases hgood : (0 ≤ zn ∧ zn ≤ 4611686018427387904) ∧ 0 ≤ zo ∧ zo ≤ ((64 * count : Nat) : Int)
                  · as_aux_lemma =>
                      obtain ⟨⟨a0, a1⟩, s0, s1⟩ := hgood
                      have HP : pl = true := by rw [HPL.out, decide_eq_true a0, decide_eq_true a1]; rfl
                      subst HP
                      obtain ⟨at', rfl⟩ := Int.eq_ofNat_of_zero_le a0
                      obtain ⟨sz, rfl⟩ := Int.eq_ofNat_of_zero_le s0
                      have hsz9 : sz ≤ 64 * count := by omega
                      have s2 : (sz : Int) ≤ 64 * (count : Int) := by omega
                      have KG := Lib.hid (ap_get2 T2.out at' sz (by omega) hsz9)
                      clear HPL a0 HTJ hsj s1
                      go_wp2_with fail
                      refine KG.out.mono ?_
                      rintro e w5 ⟨rfl, hb5⟩
                      have T3 := Lib.hid (T2.out.below hb5)
                      have X3 := Lib.hid (hXS.out.below hb5)
                      have hXl : X < w5.heap.size := block_lt (p := ⟨X, 1, none⟩) X3.out.c1
                      have hgl : g < w5.heap.size := by omega
                      have hBl := T3.out.sz
                      have c1 := X3.out.c1
                      have c2 := X3.out.c2
                      rw [hzn] at c1
                      rw [hzo] at c2
                      clear T2 hXS hb5 KG
                      obtain ⟨p, hp⟩ : ∃ p, p = at' % (64 * count) := ⟨_, rfl⟩
                      have hpl : p < 64 * count := by rw [hp]; exact Nat.mod_lt _ (by omega)
                      have e64 : 64 * (count : Int) = ((64 * count : Nat) : Int) := by omega
                      have hm1 : Int.tmod (at' : Int) (64 * (count : Int)) = (p : Int) := by rw [e64, Int.tmod_eq_emod_of_nonneg (by omega), hp]; rfl
                      have HM1 := Lib.hid hm1
                      have HE64 := Lib.hid e64
                      have HRS := Lib.hid (fun k => ring_succ N (64 * count) at' k)
                      rw [← hp] at HRS
                      have HRL := Lib.hid (fun k => ring_len N (64 * count) at' k)
                      have R0 : Hid (RowB w5 w5.heap.size (.slice none 0 0) (ring N (64 * count) at' 0)) := RowB.none _ _
                      have B0 : Hid (Below w5.heap.size w5 w5) := Below.refl _ _
                      clear hm1 e64 hp
                      obtain ⟨Y, hY⟩ : ∃ Y, Y = w5.heap.size := ⟨_, rfl⟩
                      rw [← hY] at R0 B0 hXl hgl hBl
                      have hY5 : Y ≤ w5.heap.size := by omega
                      clear hY
                      go_wp2_with fail
                      go_loopw [20, 21] (fun v i wr => ∃ k : Nat, k ≤ sz ∧ i = .int .i64 k ∧ Hid (RowB wr Y v (ring N (64 * count) at' k)) ∧ Hid (Below Y w5 wr) ∧ Y ≤ wr.heap.size) (fun _ i _ => sz - (intOf i).toNat)
                      case atStart => exact ⟨0, by omega, rfl, R0, B0, hY5⟩
                      case round =>
                        obtain ⟨k3, hk3, rfl, R1, B1, hYr⟩ := hrel
                        rename World => wr
                        clear R0 B0
                        have X4 := X3.out.past B1.out hXl
                        have d1 := X4.c1
                        have d2 := X4.c2
                        rw [hzn] at d1
                        rw [hzo] at d2
                        clear X4 c1 c2
                        by_cases hlt : k3 < sz
                        · have hk0 : (0 : Int) ≤ (k3 : Int) := by omega
                          have hk1 : (k3 : Int) < (sz : Int) := by omega
                          obtain ⟨j, hj⟩ : ∃ j, j = (p + k3) % (64 * count) := ⟨_, rfl⟩
                          have hjl : j < 64 * count := by rw [hj]; exact Nat.mod_lt _ (by omega)
                          have hm2 : Int.tmod ((p : Int) + (k3 : Int)) (64 * (count : Int)) = (j : Int) := by rw [HE64.out, Int.tmod_eq_emod_of_nonneg (by omega), hj]; rfl
                          have hR := HRS.out k3
                          rw [← hj] at hR
                          have HR := Lib.hid hR
                          have hrl := HRL.out k3
                          have hcell := (T3.out.past B1.out hgl hBl).row.cell j (by omega)
                          obtain ⟨bb, hbb⟩ : ∃ b, b = N.getD j 0 := ⟨_, rfl⟩
                          rw [← hbb] at hcell HR
                          have hrb : (ring N (64 * count) at' k3).length ≤ 100000 := by omega
                          have hj0 : (0 : Int) ≤ (j : Int) := by omega
                          have hj1 : (j : Int) < 64 * (count : Int) := by omega
                          have hnz : ¬ (64 * (count : Int) = 0) := by omega
                          have hm1 := HM1.out
                          have R2 := R1
                          obtain ⟨rg, rc, hv⟩ := R1.out.slice
                          subst hv
                          clear hR hj hbb hrl R1
                          generalize ring N (64 * count) at' k3 = rk at *
                          go_wp2_with (at_builtin; refine append_byte rfl _ _ rfl Y (.slice rg rk.length rc) rk bb (bb.toNat : Int) rfl rfl R2.out rfl hrb hYr ?_)
                          intro v1 w6 r1 hg ho
                          have hba : Below Y wr (wr.alloc (.cells #[.int .u8 (bb.toNat : Int)] 5)) := (Below.refl _ _).alloc hYr _
                          have hb6 : Below Y wr w6 := hba.grown hg (by rw [World.size_alloc]; omega) (fun g hgk => (R2.out.lt g hgk).1)
                          have B2 := Lib.hid (B1.out.trans hb6)
                          have hY6 : Y ≤ w6.heap.size := Nat.le_trans hYr hb6.size
                          have R3 : Hid (RowB w6 Y v1 (ring N (64 * count) at' (k3 + 1))) := by rw [HR.out]; exact r1
                          clear r1 hg ho hba hb6 R2 B1 HR hcell hYr
                          go_wp2
                          go_roundw
                          case rel => exact ⟨k3 + 1, by omega, by go_num, R3, B2, hY6⟩
                          case measure => simp [intOf]; omega
                        · have hke : k3 = sz := by omega
                          subst hke
                          have hk1 : (k3 : Int) ≤ (k3 : Int) := Int.le_refl _
                          have kc := bytes_str R1.out
                          have T4 : Hid (Ap w wr B Ar D P L M n first count (2001 * (q + 1)) u 0 k las f N g) := (T3.out.past B1.out hgl hBl).mono (by omega)
                          clear R1 B1 T3 X3
                          go_wp2_with fail
                          go_meet
                          exact ⟨u, k, las, f, N, T4⟩
                  · as_aux_lemma =>
                      have KN := Lib.hid (get_no T2.out.a zn zo hgood)
                      have T4 : Hid (Ap w wb B Ar D P L M n first count (2001 * (q + 1)) u 0 k las f N g) := T2.out.mono (by omega)
                      have hcl : pl = false ∨ (pl = true ∧ zo < 0) ∨ (pl = true ∧ 0 ≤ zo ∧ 64 * (count : Int) < zo) := by
                        cases hpl : pl with
                        | false => exact .inl rfl
                        | true =>
                          have h1 := HPL.out
                          rw [hpl] at h1
                          have h2 := h1.symm
                          rw [Bool.and_eq_true, decide_eq_true_iff, decide_eq_true_iff] at h2
                          by_cases h3 : zo < 0
                          · exact .inr (.inl ⟨rfl, h3⟩)
                          · exact .inr (.inr ⟨rfl, by omega, by omega⟩)
                      clear HPL hgood HTJ hsj T2 hXS
                      rcases hcl with rfl | ⟨rfl, h3⟩ | ⟨rfl, h3, h4⟩
                      all_goals
                        go_wp2_with fail
                        refine KN.out.mono ?_
                        rintro e w5 ⟨rfl, rfl⟩
                        go_wp2
                        go_roundw
                        case rel => exact ⟨q + 1, u, k, las, f, N, by omega, by go_num, T4⟩
                        case measure => simp [intOf]; omega
                · have e1 : (zk == 1) = false := by rw [beq_eq_false_iff_ne]; exact e1
                  by_cases e2 : zk = 2
                  · as_aux_lemma =>
                      subst e2
                      have KY := Lib.hid (ap_sync T2.out (by omega))
                      have ca := T2.out.a.a0
                      clear T2 hXS HPL HTJ hsj
                      go_wp2_with fail
                      refine KY.out.mono ?_
                      rintro e w5 ⟨rfl, las2, T3⟩
                      clear KY ca
                      go_wp2_with fail
                      go_meet
                      exact ⟨_, _, _, _, _, T3.out.mono (by omega)⟩
                  · as_aux_lemma =>
                      have e2 : (zk == 2) = false := by rw [beq_eq_false_iff_ne]; exact e2
                      have T4 : Hid (Ap w wb B Ar D P L M n first count (2001 * (q + 1)) u 0 k las f N g) := T2.out.mono (by omega)
                      clear T2 hXS HPL HTJ hsj
                      go_wp2_with fail
                      go_meet
                      exact ⟨_, _, _, _, _, T4⟩
            case rest =>
            as_aux_lemma =>
              rename World => wx
              obtain ⟨u2, k2, las2, f2, N2, T3⟩ := hcut
              have KG := Lib.hid (ap_all T3.out)
              clear T2 X0 X1 X2 X3 HTJ HPL hsj hok h6 h2000 h40 hgX hBX hN hzn hzo T3
              go_wp2_with fail
              refine KG.out.mono ?_
              rintro e w5 ⟨rfl, T2⟩
              clear KG
              obtain ⟨Z, hZ⟩ : ∃ Z : List UInt8, Z = List.replicate (64 * count) 0 := ⟨_, rfl⟩
              obtain ⟨bB, hbB⟩ : ∃ b, b = decide (N2 = List.replicate (64 * count) 0) := ⟨_, rfl⟩
              have HBB := Lib.hid hbB.symm
              rw [← hZ] at hbB
              have hE3 : decide (txt N2 = txt Z) = bB := by
                rw [hbB]
                by_cases e : N2 = Z
                · rw [e]; simp
                · rw [decide_eq_false e, decide_eq_false (fun x => e (txt_inj x))]
              have hE1 : (txt N2 == txt Z) = bB := by rw [← hE3]; exact ba_beq _ _
              have hE2 : ((txt N2).toList == (txt Z).toList) = bB := by
                rw [← hE3, Bool.eq_iff_iff, beq_iff_eq, decide_eq_true_iff, ByteArray.toList_eq, ByteArray.toList_eq]
                exact ⟨fun e => by rw [txt_inj (a := N2) (b := Z) (by unfold txt; exact congrArg _ (Array.toList_inj.1 e))], fun e => by rw [e]⟩
              have hc9 : 64 * count ≤ 100000 := by omega
              obtain ⟨CZ, hCZ⟩ : ∃ C, C = (Lib.byteCells Z).toArray := ⟨_, rfl⟩
              have HMK : Hid (∀ W1, (Instr.makeSlice 30 (.int .i64 (64 * (count : Int))) (.int .i64 (64 * (count : Int)))).run Tryd.prog W1 = .ok (.slice (some ⟨W1.heap.size, 0, none⟩) (64 * count) (64 * count)) (W1.alloc (.cells CZ 5))) := fun W1 => by
                rw [hCZ, hZ]; exact make_zero (64 * count) hc9 _ (by omega) W1
              have HMR : Hid (∀ {W1 : World}, Hid (Ap w W1 B Ar D P L M n first count (2001 * (q + 1)) u2 0 k2 las2 f2 N2 g) → Hid (RowB (W1.alloc (.cells CZ 5)) W1.heap.size (.slice (some ⟨W1.heap.size, 0, none⟩) (64 * count) (64 * count)) Z)) := fun {W1} _ => by
                rw [Hid, hCZ, hZ]; exact made_row (64 * count) hc9 W1
              have HKC : Hid (∀ {W1 W2 : World} {B1 g1 : Nat}, Hid (Ap w W1 B Ar D P L M n first count (2001 * (q + 1)) u2 0 k2 las2 f2 N2 g) → Hid (RowB W2 B1 (.slice (some ⟨g1, 0, none⟩) (64 * count) (64 * count)) Z) → W2 = W1 → (convert 30 9 (.slice (some ⟨g1, 0, none⟩) (64 * count) (64 * count))).run Tryd.prog W1 = .ok (.string (txt Z)) W1) := fun {W1 W2 B1 g1} _ h e => by
                subst e
                have hzl : Z.length = 64 * count := by rw [hZ, List.length_replicate]
                have h2 := h.out
                rw [← hzl] at h2 ⊢
                exact bytes_str h2
              have HWR : Hid (IntKind.i64.wrap (64 * (count : Int)) = 64 * (count : Int)) := IntWalk.i64_in _ (by omega)
              clear hZ hCZ hbB hE3
              go_wp2_with fail
              have T2 := Lib.hid (T2.out.below ((Below.refl _ _).drew))
              obtain ⟨c2, hc2⟩ : ∃ c, c = 2001 * (q + 1) := ⟨_, rfl⟩
              have HC2 := Lib.hid hc2
              rw [← hc2] at T2 HMR HKC
              clear hc2
              refine wp_region_held_drew (S := (fun w' => Hid (Ap w w' B Ar D P L M n first count c2 u2 0 k2 las2 f2 N2 g))) (by kernel_rfl) ?_ (fun hHeld => ?_)
              · (try dsimp only); (first | with_reducible exact HQ16 | with_reducible exact HQ15 | with_reducible exact HQ10 | with_reducible exact T2 | exact HQ16 | exact HQ15)
              refine wpAnyH_take (i := 0) (oi := { dst := some 228, op := Op.move (Operand.tmp 22), type := 9, pos := "law.go:98", after := #[], guard := none }) (v := ?_) rfl (by kernel_rfl) (by kernel_rfl) (by kernel_rfl) (fun _ _ _ h => h) (Or.inl ⟨by rfl, ?_⟩) (by assumption) ?_
              rotate_left 1
              · (intro w' hSw; (try dsimp only at hSw); go_simp; try (with_reducible rfl))
              try simp only [Act.put, List.setIfInBounds_toArray, List.set_cons_zero, List.set_cons_succ]
              refine wpAnyH_take (i := 1) (oi := { dst := some 229, op := Op.move (Operand.tmp 11), type := 30, pos := "law.go:98", after := #[], guard := none }) (v := ?_) rfl (by kernel_rfl) (by kernel_rfl) (by kernel_rfl) (fun _ _ _ h => h) (Or.inl ⟨by rfl, ?_⟩) (by assumption) ?_
              rotate_left 1
              · (intro w' hSw; (try dsimp only at hSw); go_simp; try (with_reducible rfl))
              try simp only [Act.put, List.setIfInBounds_toArray, List.set_cons_zero, List.set_cons_succ]
              refine wpAnyH_take (i := 2) (oi := { dst := some 230, op := Op.convert 30 9 (Operand.tmp 229), type := 9, pos := "law.go:98", after := #[{ on := 1, ground := Ground.data }], guard := none }) (v := ?_) rfl (by kernel_rfl) (by kernel_rfl) (by kernel_rfl) (fun _ _ _ h => h) (Or.inl ⟨by rfl, ?_⟩) (by assumption) ?_
              rotate_left 1
              · (intro w' hSw; have kc := Ap.str hSw.out; (try dsimp only at hSw); go_simp; try (with_reducible rfl))
              try simp only [Act.put, List.setIfInBounds_toArray, List.set_cons_zero, List.set_cons_succ]
              refine wpAnyH_take (i := 3) (oi := { dst := some 231, op := Op.binOp BinOp.neq 9 (Operand.tmp 228) (Operand.tmp 230) 9, type := 4, pos := "law.go:98", after := #[{ on := 0, ground := Ground.data }, { on := 2, ground := Ground.data }], guard := none }) (v := ?_) rfl (by kernel_rfl) (by kernel_rfl) (by kernel_rfl) (fun _ _ _ h => h) (Or.inl ⟨by rfl, ?_⟩) (by assumption) ?_
              rotate_left 1
              · (intro w' hSw; (try dsimp only at hSw); go_simp; try (with_reducible rfl))
              try simp only [Act.put, List.setIfInBounds_toArray, List.set_cons_zero, List.set_cons_succ]
              refine wpAnyH_take (i := 4) (oi := { dst := some 232, op := Op.move (Operand.tmp 231), type := 4, pos := "law.go:98", after := #[{ on := 3, ground := Ground.data }], guard := none }) (v := ?_) rfl (by kernel_rfl) (by kernel_rfl) (by kernel_rfl) (fun _ _ _ h => h) (Or.inl ⟨by rfl, ?_⟩) (by assumption) ?_
              rotate_left 1
              · (intro w' hSw; (try dsimp only at hSw); go_simp; try (with_reducible rfl))
              try simp only [Act.put, List.setIfInBounds_toArray, List.set_cons_zero, List.set_cons_succ]
              refine wpAnyH_take (i := 5) (oi := { dst := some 233, op := Op.move (Operand.tmp 23), type := 36, pos := "law.go:98", after := #[{ on := 4, ground := Ground.guard }], guard := some (4, false) }) (v := ?_) rfl (by kernel_rfl) (by kernel_rfl) (by kernel_rfl) (fun _ _ _ h => h) (Or.inl ⟨by rfl, ?_⟩) (by assumption) ?_
              rotate_left 1
              · (intro w' hSw; (try dsimp only at hSw); go_simp; try (with_reducible rfl))
              try simp only [Act.put, List.setIfInBounds_toArray, List.set_cons_zero, List.set_cons_succ]
              refine wpAnyH_take (i := 6) (oi := { dst := some 234, op := Op.binOp BinOp.neq 36 (Operand.tmp 233) (Operand.const (Value.int IntKind.i64 0)) 36, type := 4, pos := "law.go:98", after := #[{ on := 5, ground := Ground.data }, { on := 4, ground := Ground.guard }], guard := some (4, false) }) (v := ?_) rfl (by kernel_rfl) (by kernel_rfl) (by kernel_rfl) (fun _ _ _ h => h) (Or.inl ⟨by rfl, ?_⟩) (by assumption) ?_
              rotate_left 1
              · (intro w' hSw; (try dsimp only at hSw); go_simp; try (with_reducible rfl))
              try simp only [Act.put, List.setIfInBounds_toArray, List.set_cons_zero, List.set_cons_succ]
              refine wpAnyH_take (i := 7) (oi := { dst := some 235, op := Op.pick (Operand.tmp 232) (Operand.const (Value.bool true)) (Operand.tmp 234), type := 4, pos := "law.go:98", after := #[{ on := 4, ground := Ground.data }, { on := 6, ground := Ground.data }], guard := none }) (v := ?_) rfl (by kernel_rfl) (by kernel_rfl) (by kernel_rfl) (fun _ _ _ h => h) (Or.inl ⟨by rfl, ?_⟩) (by assumption) ?_
              rotate_left 1
              · (intro w' hSw; (try dsimp only at hSw); go_simp; try (with_reducible rfl))
              try simp only [Act.put, List.setIfInBounds_toArray, List.set_cons_zero, List.set_cons_succ]
              refine wpAnyH_take (i := 8) (oi := { dst := some 236, op := Op.move (Operand.tmp 235), type := 4, pos := "law.go:98", after := #[{ on := 7, ground := Ground.data }, { on := 4, ground := Ground.chain }], guard := none }) (v := ?_) rfl (by kernel_rfl) (by kernel_rfl) (by kernel_rfl) (fun _ _ _ h => h) (Or.inl ⟨by rfl, ?_⟩) (by assumption) ?_
              rotate_left 1
              · (intro w' hSw; (try dsimp only at hSw); go_simp; try (with_reducible rfl))
              try simp only [Act.put, List.setIfInBounds_toArray, List.set_cons_zero, List.set_cons_succ]
              refine wpAnyH_take (i := 9) (oi := { dst := some 237, op := Op.move (Operand.tmp 10), type := 27, pos := "law.go:98", after := #[{ on := 8, ground := Ground.guard }], guard := some (8, false) }) (v := ?_) rfl (by kernel_rfl) (by kernel_rfl) (by kernel_rfl) (fun _ _ _ h => h) (Or.inl ⟨by rfl, ?_⟩) (by assumption) ?_
              rotate_left 1
              · (intro w' hSw; (try dsimp only at hSw); go_simp; try (with_reducible rfl))
              try simp only [Act.put, List.setIfInBounds_toArray, List.set_cons_zero, List.set_cons_succ]
              refine wpAnyH_take (i := 11) (oi := { dst := some 239, op := Op.move (Operand.tmp 11), type := 30, pos := "law.go:98", after := #[{ on := 8, ground := Ground.guard }], guard := some (8, false) }) (v := ?_) rfl (by kernel_rfl) (by kernel_rfl) (by kernel_rfl) (fun _ _ _ h => h) (Or.inl ⟨by rfl, ?_⟩) (by assumption) ?_
              rotate_left 1
              · (intro w' hSw; (try dsimp only at hSw); go_simp; try (with_reducible rfl))
              try simp only [Act.put, List.setIfInBounds_toArray, List.set_cons_zero, List.set_cons_succ]
              refine wpAnyH_take (i := 12) (oi := { dst := some 240, op := Op.convert 30 9 (Operand.tmp 239), type := 9, pos := "law.go:98", after := #[{ on := 11, ground := Ground.data }, { on := 8, ground := Ground.guard }], guard := some (8, false) }) (v := ?_) rfl (by kernel_rfl) (by kernel_rfl) (by kernel_rfl) (fun _ _ _ h => h) (Or.inl ⟨by rfl, ?_⟩) (by assumption) ?_
              rotate_left 1
              · (intro w' hSw; have kc := Ap.str hSw.out; (try dsimp only at hSw); go_simp; try (with_reducible rfl))
              try simp only [Act.put, List.setIfInBounds_toArray, List.set_cons_zero, List.set_cons_succ]
              refine wpAnyH_take (i := 13) (oi := { dst := some 241, op := Op.move (Operand.tmp 2), type := 3, pos := "law.go:98", after := #[{ on := 8, ground := Ground.guard }], guard := some (8, false) }) (v := ?_) rfl (by kernel_rfl) (by kernel_rfl) (by kernel_rfl) (fun _ _ _ h => h) (Or.inl ⟨by rfl, ?_⟩) (by assumption) ?_
              rotate_left 1
              · (intro w' hSw; (try dsimp only at hSw); go_simp; try (with_reducible rfl))
              try simp only [Act.put, List.setIfInBounds_toArray, List.set_cons_zero, List.set_cons_succ]
              refine wpAnyH_take (i := 14) (oi := { dst := some 242, op := Op.binOp BinOp.mul 3 (Operand.const (Value.int IntKind.i64 64)) (Operand.tmp 241) 3, type := 3, pos := "law.go:98", after := #[{ on := 13, ground := Ground.data }, { on := 8, ground := Ground.guard }], guard := some (8, false) }) (v := ?_) rfl (by kernel_rfl) (by kernel_rfl) (by kernel_rfl) (fun _ _ _ h => h) (Or.inl ⟨by rfl, ?_⟩) (by assumption) ?_
              rotate_left 1
              · (intro w' hSw; (try dsimp only at hSw); go_simp; try (with_reducible rfl))
              try simp only [Act.put, List.setIfInBounds_toArray, List.set_cons_zero, List.set_cons_succ]
              refine wpAnyH_ready (rs := [10, 15]) (by kernel_rfl) (by simp) ?_
              refine (AllReadyH.cons rfl (fun K hK => ?_) (AllReadyH.cons rfl (fun K hK => ?_) AllReadyH.nil))
              · skip
                go_simp
                refine (ap_blank bB HBB.out hHeld.out).mono ?_
                rintro e w8 ⟨rfl, hb8⟩
                have HQ10 := Lib.hid (hHeld.out.below hb8)
                try have HR15 := Lib.hid (HR15.out.below hb8)
                clear hb8
                clear hHeld
                refine hK.out _ _ ?_ (fun hHeld => ?_)
                · (try dsimp only); (first | with_reducible exact HQ16 | with_reducible exact HQ15 | with_reducible exact HQ10 | with_reducible exact T2 | exact HQ16 | exact HQ15)
                clear hK K
                refine wpAnyH_ready (rs := [15]) (by kernel_rfl) (by simp) ?_
                refine (AllReadyH.cons rfl (fun K hK => ?_) AllReadyH.nil)
                · skip
                  have hmk := HMK.out
                  have hwr := HWR.out
                  go_simp
                  have HR15 := HMR.out hHeld
                  have HQ15 := Lib.hid (hHeld.out.below ((Below.refl _ _).alloc (o := .cells CZ 5) (Nat.le_refl _)))
                  clear hHeld
                  refine hK.out _ _ ?_ (fun hHeld => ?_)
                  · (try dsimp only); (first | with_reducible exact HQ16 | with_reducible exact HQ15 | with_reducible exact HQ10 | with_reducible exact T2 | exact HQ16 | exact HQ15)
                  clear hK K
                  refine wpAnyH_ready (rs := [16]) (by kernel_rfl) (by simp) ?_
                  refine (AllReadyH.cons rfl (fun K hK => ?_) AllReadyH.nil)
                  · skip
                    first | have kc16 := HKC.out (g1 := w5.heap.size) hHeld HR15 rfl | have kc16 := HKC.out hHeld HR15 rfl
                    go_simp
                    have HQ16 := hHeld
                    clear hHeld
                    refine hK.out _ _ ?_ (fun hHeld => ?_)
                    · (try dsimp only); (first | with_reducible exact HQ16 | with_reducible exact HQ15 | with_reducible exact HQ10 | with_reducible exact T2 | exact HQ16 | exact HQ15)
                    clear hK K
                    refine wpAnyH_take (i := 17) (oi := { dst := some 245, op := Op.binOp BinOp.eql 9 (Operand.tmp 240) (Operand.tmp 244) 9, type := 4, pos := "law.go:98", after := #[{ on := 12, ground := Ground.data }, { on := 16, ground := Ground.data }, { on := 8, ground := Ground.guard }], guard := some (8, false) }) (v := ?_) rfl (by kernel_rfl) (by kernel_rfl) (by kernel_rfl) (fun _ _ _ h => h) (Or.inl ⟨by rfl, ?_⟩) (by assumption) ?_
                    rotate_left 1
                    · (intro w' hSw; (try dsimp only at hSw); go_simp; try (with_reducible rfl))
                    try simp only [Act.put, List.setIfInBounds_toArray, List.set_cons_zero, List.set_cons_succ]
                    refine wpAnyH_take (i := 18) (oi := { dst := some 246, op := Op.binOp BinOp.neq 4 (Operand.tmp 238) (Operand.tmp 245) 4, type := 4, pos := "law.go:98", after := #[{ on := 10, ground := Ground.data }, { on := 17, ground := Ground.data }, { on := 8, ground := Ground.guard }], guard := some (8, false) }) (v := ?_) rfl (by kernel_rfl) (by kernel_rfl) (by kernel_rfl) (fun _ _ _ h => h) (Or.inl ⟨by rfl, ?_⟩) (by assumption) ?_
                    rotate_left 1
                    · (intro w' hSw; (try dsimp only at hSw); go_simp; try (with_reducible rfl))
                    try simp only [Act.put, List.setIfInBounds_toArray, List.set_cons_zero, List.set_cons_succ]
                    refine wpAnyH_take (i := 19) (oi := { dst := some 247, op := Op.pick (Operand.tmp 236) (Operand.const (Value.bool true)) (Operand.tmp 246), type := 4, pos := "law.go:98", after := #[{ on := 8, ground := Ground.data }, { on := 18, ground := Ground.data }], guard := none }) (v := ?_) rfl (by kernel_rfl) (by kernel_rfl) (by kernel_rfl) (fun _ _ _ h => h) (Or.inl ⟨by rfl, ?_⟩) (by assumption) ?_
                    rotate_left 1
                    · (intro w' hSw; (try dsimp only at hSw); go_simp; try (with_reducible rfl))
                    try simp only [Act.put, List.setIfInBounds_toArray, List.set_cons_zero, List.set_cons_succ]
                    refine wpAnyH_done (by kernel_rfl) ?_ _
                    go_wp2
                    go_roundw
                    case rel => exact ⟨q + 1, u2, k2, las2, f2, N2, by omega, by go_num, by rw [← HC2.out]; exact hHeld⟩
                    case measure => simp [intOf]; omega
              · skip
                have hmk := HMK.out
                have hwr := HWR.out
                go_simp
                have HR15 := HMR.out hHeld
                have HQ15 := Lib.hid (hHeld.out.below ((Below.refl _ _).alloc (o := .cells CZ 5) (Nat.le_refl _)))
                clear hHeld
                refine hK.out _ _ ?_ (fun hHeld => ?_)
                · (try dsimp only); (first | with_reducible exact HQ16 | with_reducible exact HQ15 | with_reducible exact HQ10 | with_reducible exact T2 | exact HQ16 | exact HQ15)
                clear hK K
                refine wpAnyH_ready (rs := [10, 16]) (by kernel_rfl) (by simp) ?_
                refine (AllReadyH.cons rfl (fun K hK => ?_) (AllReadyH.cons rfl (fun K hK => ?_) AllReadyH.nil))
                · skip
                  go_simp
                  refine (ap_blank bB HBB.out hHeld.out).mono ?_
                  rintro e w8 ⟨rfl, hb8⟩
                  have HQ10 := Lib.hid (hHeld.out.below hb8)
                  try have HR15 := Lib.hid (HR15.out.below hb8)
                  clear hb8
                  clear hHeld
                  refine hK.out _ _ ?_ (fun hHeld => ?_)
                  · (try dsimp only); (first | with_reducible exact HQ16 | with_reducible exact HQ15 | with_reducible exact HQ10 | with_reducible exact T2 | exact HQ16 | exact HQ15)
                  clear hK K
                  refine wpAnyH_ready (rs := [16]) (by kernel_rfl) (by simp) ?_
                  refine (AllReadyH.cons rfl (fun K hK => ?_) AllReadyH.nil)
                  · skip
                    first | have kc16 := HKC.out (g1 := w5.heap.size) hHeld HR15 rfl | have kc16 := HKC.out hHeld HR15 rfl
                    go_simp
                    have HQ16 := hHeld
                    clear hHeld
                    refine hK.out _ _ ?_ (fun hHeld => ?_)
                    · (try dsimp only); (first | with_reducible exact HQ16 | with_reducible exact HQ15 | with_reducible exact HQ10 | with_reducible exact T2 | exact HQ16 | exact HQ15)
                    clear hK K
                    refine wpAnyH_take (i := 17) (oi := { dst := some 245, op := Op.binOp BinOp.eql 9 (Operand.tmp 240) (Operand.tmp 244) 9, type := 4, pos := "law.go:98", after := #[{ on := 12, ground := Ground.data }, { on := 16, ground := Ground.data }, { on := 8, ground := Ground.guard }], guard := some (8, false) }) (v := ?_) rfl (by kernel_rfl) (by kernel_rfl) (by kernel_rfl) (fun _ _ _ h => h) (Or.inl ⟨by rfl, ?_⟩) (by assumption) ?_
                    rotate_left 1
                    · (intro w' hSw; (try dsimp only at hSw); go_simp; try (with_reducible rfl))
                    try simp only [Act.put, List.setIfInBounds_toArray, List.set_cons_zero, List.set_cons_succ]
                    refine wpAnyH_take (i := 18) (oi := { dst := some 246, op := Op.binOp BinOp.neq 4 (Operand.tmp 238) (Operand.tmp 245) 4, type := 4, pos := "law.go:98", after := #[{ on := 10, ground := Ground.data }, { on := 17, ground := Ground.data }, { on := 8, ground := Ground.guard }], guard := some (8, false) }) (v := ?_) rfl (by kernel_rfl) (by kernel_rfl) (by kernel_rfl) (fun _ _ _ h => h) (Or.inl ⟨by rfl, ?_⟩) (by assumption) ?_
                    rotate_left 1
                    · (intro w' hSw; (try dsimp only at hSw); go_simp; try (with_reducible rfl))
                    try simp only [Act.put, List.setIfInBounds_toArray, List.set_cons_zero, List.set_cons_succ]
                    refine wpAnyH_take (i := 19) (oi := { dst := some 247, op := Op.pick (Operand.tmp 236) (Operand.const (Value.bool true)) (Operand.tmp 246), type := 4, pos := "law.go:98", after := #[{ on := 8, ground := Ground.data }, { on := 18, ground := Ground.data }], guard := none }) (v := ?_) rfl (by kernel_rfl) (by kernel_rfl) (by kernel_rfl) (fun _ _ _ h => h) (Or.inl ⟨by rfl, ?_⟩) (by assumption) ?_
                    rotate_left 1
                    · (intro w' hSw; (try dsimp only at hSw); go_simp; try (with_reducible rfl))
                    try simp only [Act.put, List.setIfInBounds_toArray, List.set_cons_zero, List.set_cons_succ]
                    refine wpAnyH_done (by kernel_rfl) ?_ _
                    go_wp2
                    go_roundw
                    case rel => exact ⟨q + 1, u2, k2, las2, f2, N2, by omega, by go_num, by rw [← HC2.out]; exact hHeld⟩
                    case measure => simp [intOf]; omega
                · skip
                  first | have kc16 := HKC.out (g1 := w5.heap.size) hHeld HR15 rfl | have kc16 := HKC.out hHeld HR15 rfl
                  go_simp
                  have HQ16 := hHeld
                  clear hHeld
                  refine hK.out _ _ ?_ (fun hHeld => ?_)
                  · (try dsimp only); (first | with_reducible exact HQ16 | with_reducible exact HQ15 | with_reducible exact HQ10 | with_reducible exact T2 | exact HQ16 | exact HQ15)
                  clear hK K
                  refine wpAnyH_take (i := 17) (oi := { dst := some 245, op := Op.binOp BinOp.eql 9 (Operand.tmp 240) (Operand.tmp 244) 9, type := 4, pos := "law.go:98", after := #[{ on := 12, ground := Ground.data }, { on := 16, ground := Ground.data }, { on := 8, ground := Ground.guard }], guard := some (8, false) }) (v := ?_) rfl (by kernel_rfl) (by kernel_rfl) (by kernel_rfl) (fun _ _ _ h => h) (Or.inl ⟨by rfl, ?_⟩) (by assumption) ?_
                  rotate_left 1
                  · (intro w' hSw; (try dsimp only at hSw); go_simp; try (with_reducible rfl))
                  try simp only [Act.put, List.setIfInBounds_toArray, List.set_cons_zero, List.set_cons_succ]
                  refine wpAnyH_ready (rs := [10]) (by kernel_rfl) (by simp) ?_
                  refine (AllReadyH.cons rfl (fun K hK => ?_) AllReadyH.nil)
                  · skip
                    go_simp
                    refine (ap_blank bB HBB.out hHeld.out).mono ?_
                    rintro e w8 ⟨rfl, hb8⟩
                    have HQ10 := Lib.hid (hHeld.out.below hb8)
                    try have HR15 := Lib.hid (HR15.out.below hb8)
                    clear hb8
                    clear hHeld
                    refine hK.out _ _ ?_ (fun hHeld => ?_)
                    · (try dsimp only); (first | with_reducible exact HQ16 | with_reducible exact HQ15 | with_reducible exact HQ10 | with_reducible exact T2 | exact HQ16 | exact HQ15)
                    clear hK K
                    refine wpAnyH_take (i := 18) (oi := { dst := some 246, op := Op.binOp BinOp.neq 4 (Operand.tmp 238) (Operand.tmp 245) 4, type := 4, pos := "law.go:98", after := #[{ on := 10, ground := Ground.data }, { on := 17, ground := Ground.data }, { on := 8, ground := Ground.guard }], guard := some (8, false) }) (v := ?_) rfl (by kernel_rfl) (by kernel_rfl) (by kernel_rfl) (fun _ _ _ h => h) (Or.inl ⟨by rfl, ?_⟩) (by assumption) ?_
                    rotate_left 1
                    · (intro w' hSw; (try dsimp only at hSw); go_simp; try (with_reducible rfl))
                    try simp only [Act.put, List.setIfInBounds_toArray, List.set_cons_zero, List.set_cons_succ]
                    refine wpAnyH_take (i := 19) (oi := { dst := some 247, op := Op.pick (Operand.tmp 236) (Operand.const (Value.bool true)) (Operand.tmp 246), type := 4, pos := "law.go:98", after := #[{ on := 8, ground := Ground.data }, { on := 18, ground := Ground.data }], guard := none }) (v := ?_) rfl (by kernel_rfl) (by kernel_rfl) (by kernel_rfl) (fun _ _ _ h => h) (Or.inl ⟨by rfl, ?_⟩) (by assumption) ?_
                    rotate_left 1
                    · (intro w' hSw; (try dsimp only at hSw); go_simp; try (with_reducible rfl))
                    try simp only [Act.put, List.setIfInBounds_toArray, List.set_cons_zero, List.set_cons_succ]
                    refine wpAnyH_done (by kernel_rfl) ?_ _
                    go_wp2
                    go_roundw
                    case rel => exact ⟨q + 1, u2, k2, las2, f2, N2, by omega, by go_num, by rw [← HC2.out]; exact hHeld⟩
                    case measure => simp [intOf]; omega
          · as_aux_lemma =>
              have hq1 : (A.length : Int) ≤ (q : Int) := by omega
              obtain ⟨T64, hT64⟩ : ∃ T, T = txt (List.replicate 64 0) := ⟨_, rfl⟩
              have HT64 : Hid (txt blank64 = T64) := by rw [hT64]; rfl
              obtain ⟨C64, hC64⟩ : ∃ C, C = (Lib.byteCells (List.replicate 64 0)).toArray := ⟨_, rfl⟩
              have HMK : Hid (∀ W1, (Instr.makeSlice 30 (.int .i64 64) (.int .i64 64)).run Tryd.prog W1 = .ok (.slice (some ⟨W1.heap.size, 0, none⟩) 64 64) (W1.alloc (.cells C64 5))) := fun W1 => by
                rw [hC64]; exact make_zero 64 (by omega) _ rfl W1
              have HKC : Hid (∀ W1 : World, (convert 30 9 (.slice (some ⟨W1.heap.size, 0, none⟩) 64 64)).run Tryd.prog (W1.alloc (.cells C64 5)) = .ok (.string T64) (W1.alloc (.cells C64 5))) := fun W1 => by
                have h := made_row 64 (by omega) W1
                rw [hC64, hT64]
                have e := bytes_str h
                exact e
              clear hT64 hC64 HA H10
              go_wp2
              go_loopw [24] (fun i wr => ∃ j : Nat, j ≤ n ∧ i = .int .i64 j ∧ Hid (Ap w wr B Ar D P L M n first count (2001 * q) u 0 k las f N g)) (fun i _ => n - (intOf i).toNat)
              case atStart => exact ⟨0, by omega, rfl, T1⟩
              case round =>
                obtain ⟨j, hj, rfl, T2⟩ := hrel
                rename World => wb
                clear T1
                by_cases hjn : j < n
                · have hj0 : (0 : Int) ≤ (j : Int) := by omega
                  have hj1 : (j : Int) < (n : Int) := by omega
                  have KR := Lib.hid (ap_read T2.out j hjn)
                  have hout := T2.out.out j hjn
                  by_cases ho : j < first ∨ first + count ≤ j
                  · rw [hout ho, HT64.out] at KR
                    have hmk := HMK.out
                    clear hout T2
                    rcases ho with ho | ho
                    · have ho' : (j : Int) < (first : Int) := by omega
                      go_wp2_with fail
                      refine KR.out.mono ?_
                      rintro e w5 ⟨rfl, T3⟩
                      have kc := HKC.out w5
                      have T4 := Lib.hid (T3.out.below ((Below.refl _ _).alloc (o := .cells C64 5) (Nat.le_refl _)))
                      clear T3 KR
                      go_wp2
                      go_roundw
                      case rel => exact ⟨j + 1, by omega, by go_num, T4⟩
                      case measure => simp [intOf]; omega
                    · have ho' : (first : Int) + (count : Int) ≤ (j : Int) := by omega
                      have ho2 : (first : Int) ≤ (j : Int) := by omega
                      go_wp2_with fail
                      refine KR.out.mono ?_
                      rintro e w5 ⟨rfl, T3⟩
                      have kc := HKC.out w5
                      have T4 := Lib.hid (T3.out.below ((Below.refl _ _).alloc (o := .cells C64 5) (Nat.le_refl _)))
                      clear T3 KR
                      go_wp2
                      go_roundw
                      case rel => exact ⟨j + 1, by omega, by go_num, T4⟩
                      case measure => simp [intOf]; omega
                  · have ho1 : (first : Int) ≤ (j : Int) := by omega
                    have ho2 : (j : Int) < (first : Int) + (count : Int) := by omega
                    clear hout T2 ho
                    go_wp2_with fail
                    refine KR.out.mono ?_
                    rintro e w5 ⟨rfl, T3⟩
                    clear KR
                    go_wp2
                    go_roundw
                    case rel => exact ⟨j + 1, by omega, by go_num, T3⟩
                    case measure => simp [intOf]; omega
                · have hj1 : (n : Int) ≤ (j : Int) := by omega
                  go_wp2
                  go_ret
                  exact ⟨rfl, T2.out.bw⟩
end Go.Proofs.YtckhdknehdjhoaaDoor
