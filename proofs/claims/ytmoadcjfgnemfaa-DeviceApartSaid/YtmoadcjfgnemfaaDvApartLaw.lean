/-
  THE WALK OF quadrigalaw05.DeviceApart: it returns true, and writes nothing that was there.
-/
import Derived.Test.YtmoadcjfgnemfaaDvTwo
import Derived.Deep.Cut
import Derived.Deep.CutRange
import Derived.Deep.DeepCutAuto
import Derived.Deep.CutBlock
namespace Go.Proofs.Ytmoadcjfgnemfaa
open Go.RowKit
theorem keep_drew' {W : World} {p : Addr} {v : Value} (hc : W.cell? p = some v) : W.drew.cell? p = some v := hc
theorem DevAt.lts4 {W : World} {D P L M n k : Nat} {off : Bool} {uses : Int} {armed : Bool} {left : Int} {las : List (List UInt8)} {f : Int → Option (List UInt8)} (h : DevAt W D P L M n k off uses armed left las f) : D < W.heap.size ∧ P < W.heap.size ∧ L < W.heap.size ∧ M < W.heap.size := by
  obtain ⟨a, b, c⟩ := h.lts
  obtain ⟨_, hM, _⟩ := h.mp
  exact ⟨a, b, c, hM.lt⟩
def nowT (fd : Int → Option (List UInt8)) (k : Nat) : List ByteArray := (List.range k).map fun j => txt (secAt (List.replicate 6 blank64) fd j)
def lastT (k : Nat) : List ByteArray := (List.range k).map fun j => txt ((List.replicate 6 blank64).getD j blank64)
theorem nowT_succ (fd : Int → Option (List UInt8)) (k : Nat) : nowT fd (k + 1) = nowT fd k ++ [txt (secAt (List.replicate 6 blank64) fd k)] := by unfold nowT; rw [List.range_succ, List.map_append]; rfl
theorem lastT_succ (k : Nat) : lastT (k + 1) = lastT k ++ [txt ((List.replicate 6 blank64).getD k blank64)] := by unfold lastT; rw [List.range_succ, List.map_append]; rfl
theorem nowT_len (fd : Int → Option (List UInt8)) (k : Nat) : (nowT fd k).length = k := by unfold nowT; simp
theorem lastT_len (k : Nat) : (lastT k).length = k := by unfold lastT; simp
theorem nowT_get (fd : Int → Option (List UInt8)) (k j : Nat) (h : j < k) : (nowT fd k).getD j ByteArray.empty = txt (secAt (List.replicate 6 blank64) fd j) := by
  unfold nowT
  rw [List.getD_eq_getElem?_getD, List.getElem?_map, List.getElem?_range h]; rfl
theorem lastT_get (k j : Nat) (h : j < k) : (lastT k).getD j ByteArray.empty = txt ((List.replicate 6 blank64).getD j blank64) := by
  unfold lastT
  rw [List.getD_eq_getElem?_getD, List.getElem?_map, List.getElem?_range h]; rfl
/-- Two rows that share no block. -/
def SepV (a b : Value) : Prop := b.ownBlock = none ∨ b.ownBlock ≠ a.ownBlock
set_option maxRecDepth 100000 in
set_option maxHeartbeats 4000000 in
theorem deviceApart_walk (fa : Option Addr) (fl : List ByteArray) (fc : Nat) (a : Option Addr) (A : List Da) (cap : Nat) (w : World) (hfn : fl.length ≤ maxLen) (hfa : StrsAt w fa fl) (hn : A.length ≤ maxLen) (ha : DasAt w a A) :
    Calls Try.prog 6 #[.slice fa fl.length fc, .slice a A.length cap] w fun e w' => e = .returned (.bool true) ∧ Below w.heap.size w w' := by
  have KG := Lib.hid (great_any a A cap w hn ha)
  have HA := Lib.hid ha; clear ha
  have HFA := Lib.hid hfa; clear hfa
  have KA := Lib.hid (awake_any w)
  unfold maxLen at hn hfn
  cases hg : greatB A with
  | true =>
    rw [hg] at KG
    go_enter Try.func6, Try.ntmps6
    go_wp2_with fail
    refine KG.out.mono ?_
    rintro e w1 ⟨rfl, rfl⟩
    go_wp2_with fail
    refine KA.out.mono ?_
    rintro e w1 ⟨rfl, hb⟩
    go_wp2
    go_ret
    exact ⟨rfl, hb⟩
  | false =>
    obtain ⟨h60, h10⟩ := greatB_no hg
    have H10 := Lib.hid h10; clear h10
    rw [hg] at KG
    clear hg
    by_cases h20 : 20 < fl.length
    · have h20 : (20 : Int) < (fl.length : Int) := by omega
      go_enter Try.func6, Try.ntmps6
      go_wp2_with fail
      refine KG.out.mono ?_
      rintro e w1 ⟨rfl, rfl⟩
      go_wp2_with fail
      refine KA.out.mono ?_
      rintro e w1 ⟨rfl, hb⟩
      go_wp2
      go_ret
      exact ⟨rfl, hb⟩
    · have h20' : (fl.length : Int) ≤ 20 := by omega
      go_enter Try.func6, Try.ntmps6
      go_wp2_with fail
      refine KG.out.mono ?_
      rintro e w1 ⟨rfl, rfl⟩
      go_wp2_with fail
      refine KA.out.mono ?_
      rintro e w1 ⟨rfl, hb⟩
      have HB1 := Lib.hid hb; clear hb KG KA
      have hs1 := HB1.out.size
      have PW : PowAt (w1.alloc (.cells #[.bool false, .int .i64 0, .bool false, .int .i64 0] 27)) w1.heap.size 0 0 :=
        ⟨new_cell rfl rfl, new_cell rfl rfl, new_cell rfl rfl, new_cell rfl rfl, fun i => World.frozen?_alloc_at _ _ _ _ rfl⟩
      have KN := Lib.hid (new_at 6 _ w1.heap.size 0 0 PW (by omega) (by omega))
      have HB2 := Lib.hid (HB1.out.alloc hs1 (.cells #[.bool false, .int .i64 0, .bool false, .int .i64 0] 27))
      have hs2 : w.heap.size ≤ (w1.alloc (.cells #[.bool false, .int .i64 0, .bool false, .int .i64 0] 27)).heap.size := HB2.out.size
      have hs3 : (w1.alloc (.cells #[.bool false, .int .i64 0, .bool false, .int .i64 0] 27)).heap.size = w1.heap.size + 1 := World.size_alloc _ _
      clear PW
      go_wp2_with fail
      refine KN.out.mono ?_
      rintro e w2 ⟨D, L, M, rfl, hd, hb, q1, q2, q3⟩
      clear KN
      obtain ⟨l1, l2, l3, l4⟩ := hd.out.lts4
      have HB3 := Lib.hid (HB2.out.trans (hb.out.mono hs2))
      have KN := Lib.hid (new_at 6 w2 w1.heap.size 0 0 ⟨hd.out.p0, hd.out.p1, hd.out.p2, hd.out.p3, hd.out.pf⟩ (by omega) (by omega))
      clear hb HB2
      go_wp2_with fail
      refine KN.out.mono ?_
      rintro e w3 ⟨E, L2, M2, rfl, he, hb, q4, q5, q6⟩
      clear KN
      obtain ⟨l5, l6, l7, l8⟩ := he.out.lts4
      rw [hs3] at q1 q2 q3 hs2
      have S : ApS w.heap.size (w1.heap.size + 1) w2.heap.size w3.heap.size D w1.heap.size L M E L2 M2 := ⟨⟨hs1, by omega⟩, ⟨q1, l1⟩, ⟨q2, l3⟩, ⟨q3, l4⟩, ⟨q4, l5⟩, ⟨q5, l7⟩, ⟨q6, l8⟩⟩
      have T0 : Hid (Two w w3 D w1.heap.size L M E L2 M2 0 0 0 0 0 (List.replicate 6 blank64) (fun _ => none) (List.replicate 6 blank64) (fun _ => none)) :=
        ⟨hd.out.below hb.out, he.out, ⟨by omega, by omega⟩, ⟨by omega, by omega⟩, okF.none, okF.none, HB3.out.trans (hb.out.mono (by omega))⟩
      have HS := Lib.hid S
      obtain ⟨B3, hB3⟩ : ∃ B, B = w3.heap.size := ⟨_, rfl⟩
      rw [← hB3] at HS S
      have hP0 := S.p
      have hBw : B3 ≤ w3.heap.size := by omega
      clear hd he hb HB3 l1 l2 l3 l4 l5 l6 l7 l8 q1 q2 q3 q4 q5 q6 hs2 hs3 S HB1 hP0 hB3
      generalize w1.heap.size + 1 = B1 at *
      generalize w1.heap.size = P at *
      generalize w2.heap.size = B2 at *
      clear hs1
      go_upto_block 0 with fail
      go_cut [8] from 36 to 59 (fun v8 wx => ∃ (u lf : Int) (kd : Nat) (fd : Int → Option (List UInt8)), Hid (Two w wx D P L M E L2 M2 6 u lf kd 0 (List.replicate 6 blank64) fd (List.replicate 6 blank64) (fun _ => none)) ∧ B3 ≤ wx.heap.size)
      case first =>
        go_wp2_with fail
        go_loopw [8] (fun i wr => ∃ (j : Nat) (u lf : Int) (kd : Nat) (fd : Int → Option (List UInt8)), j ≤ 6 ∧ j ≤ fl.length ∧ i = .int .i64 j ∧ Hid (Two w wr D P L M E L2 M2 j u lf kd 0 (List.replicate 6 blank64) fd (List.replicate 6 blank64) (fun _ => none)) ∧ B3 ≤ wr.heap.size) (fun i _ => 6 - (intOf i).toNat)
        case atStart => exact ⟨0, 0, 0, 0, _, by omega, by omega, rfl, T0, hBw⟩
        case round =>
          obtain ⟨j, u, lf, kd, fd, hj6, hjl, rfl, T1, hBr⟩ := hrel
          rename World => wa
          clear T0 hBw
          by_cases hlt : j < fl.length
          · have hj0 : (0 : Int) ≤ (j : Int) := by omega
            have hj1 : (j : Int) < (fl.length : Int) := by omega
            by_cases hl6 : j < 6
            · have hj2 : (j : Int) < 6 := by omega
              obtain ⟨b, off, rfl, hc⟩ := (StrsAt.below HFA.out T1.out.bw).cell hlt
              generalize fl.getD j ByteArray.empty = s at hc
              by_cases h64 : s.size ≤ 64
              · have h64' : (s.size : Int) ≤ 64 := by omega
                have KW := Lib.hid (d_write HS.out T1.out (by omega) j hl6 s h64)
                have hsz := T1.out.bw.size
                have hc2 : (wa.alloc (.cells #[.string s] 9)).cell? ⟨b, off + j, none⟩ = some (.string s) := keep_alloc hc
                clear T1
                go_wp2_with fail
                refine KW.out.mono ?_
                rintro e w4 ⟨⟨r, rfl⟩, u', lf', kd', fd', T2, hsw⟩
                have T2 := Lib.hid T2
                go_wp2
                go_roundw
                case rel => exact ⟨j + 1, u', lf', kd', fd', by omega, by omega, by go_num, T2, by omega⟩
                case measure => simp [intOf]; omega
              · have h64' : (64 : Int) < (s.size : Int) := by omega
                go_wp2
                go_roundw
                case rel => exact ⟨j + 1, u, lf, kd, fd, by omega, by omega, by go_num, T1.out.mono (by omega), hBr⟩
                case measure => simp [intOf]; omega
            · have hj2 : (6 : Int) ≤ (j : Int) := by omega
              have T2 := Lib.hid (T1.out.mono (c' := 6) (by omega))
              go_wp2_with fail
              go_meet
              exact ⟨u, lf, kd, fd, T2, hBr⟩
          · have hj2 : (fl.length : Int) ≤ (j : Int) := by omega
            have T2 := Lib.hid (T1.out.mono (c' := 6) (by omega))
            go_wp2_with fail
            go_meet
            exact ⟨u, lf, kd, fd, T2, hBr⟩
      case rest =>

      rename World => wx
      obtain ⟨u, lf, kd, fd, T1, hB1⟩ := hcut
      clear T0 hBw HFA
      have TS : Hid (Two w wx D P L M E L2 M2 6 u lf kd 0 (List.replicate 6 blank64) fd (List.replicate 6 blank64) (fun _ => none)) := T1
      have R0 : Hid (RowS wx B3 (.slice none 0 0) (nowT fd 0)) := RowS.none _ _
      have R1 : Hid (RowS wx B3 (.slice none 0 0) (lastT 0)) := RowS.none _ _
      have SP : SepV (.slice none 0 0) (.slice none 0 0) := .inl rfl
      clear T1
      go_wp2
      go_loopw [9, 10, 11] (fun v1 v2 i wr => ∃ j : Nat, j ≤ 6 ∧ i = .int .i64 j ∧ Hid (Two w wr D P L M E L2 M2 6 u lf kd 0 (List.replicate 6 blank64) fd (List.replicate 6 blank64) (fun _ => none)) ∧ Hid (RowS wr B3 v1 (nowT fd j)) ∧ Hid (RowS wr B3 v2 (lastT j)) ∧ SepV v1 v2 ∧ B3 ≤ wr.heap.size) (fun _ _ i _ => 6 - (intOf i).toNat)
      case atStart => exact ⟨0, by omega, rfl, TS, R0, R1, SP, hB1⟩
      case round =>
        obtain ⟨j, hj6, rfl, T2, R2, R3, SP2, hB2⟩ := hrel
        rename World => wa
        clear TS R0 R1 SP hB1
        by_cases hlt : j < 6
        · have hj2 : (j : Int) < 6 := by omega
          have KR := Lib.hid ((read_any T2.out.d j hlt (by omega) (fun l h => (T2.out.fd _ l h).2.2)).mono fun e w' hh => (⟨hh.1, Lib.hid (T2.out.below hh.2), Lib.hid (R2.out.below hh.2), Lib.hid (R3.out.below hh.2), Nat.le_trans hB2 hh.2.size⟩ : e = .returned (.tuple #[.string (txt (secAt (List.replicate 6 blank64) fd j)), .int .i64 0]) ∧ Hid (Two w w' D P L M E L2 M2 6 u lf kd 0 (List.replicate 6 blank64) fd (List.replicate 6 blank64) (fun _ => none)) ∧ Hid (RowS w' B3 u9 (nowT fd j)) ∧ Hid (RowS w' B3 u10 (lastT j)) ∧ B3 ≤ w'.heap.size))
          have NS := Lib.hid (nowT_succ fd j)
          have LS := Lib.hid (lastT_succ j)
          have hnl := nowT_len fd j
          have hll := lastT_len j
          clear T2 R2 R3 hB2
          obtain ⟨n1, hn1⟩ : ∃ n, n = nowT fd (j + 1) := ⟨_, rfl⟩
          obtain ⟨n2, hn2⟩ : ∃ n, n = lastT (j + 1) := ⟨_, rfl⟩
          rw [← hn1] at NS
          rw [← hn2] at LS
          have HN1 := Lib.hid hn1
          have HN2 := Lib.hid hn2
          clear hn1 hn2
          generalize nowT fd j = m1 at NS KR hnl
          generalize lastT j = m2 at LS KR hll
          generalize txt (secAt (List.replicate 6 blank64) fd j) = t1 at KR NS
          go_wp2_with fail
          refine KR.out.mono ?_
          rintro e w4 ⟨rfl, T3, R4, R5, hB4⟩
          clear KR
          have hm1 : m1.length ≤ 100 := by omega
          go_wp2_with (at_builtin; refine append_str rfl _ _ rfl B3 u9 m1 t1 rfl R4.out rfl hm1 hB4 ?_)
          intro v1 w5 r1 hg ho
          have hba : Below B3 w4 (w4.alloc (.cells #[.string t1] 9)) := (Below.refl _ _).alloc hB4 _
          have hb5 : Below B3 w4 w5 := hba.grown hg (by rw [World.size_alloc]; omega) (fun g hgk => (R4.out.lt g hgk).1)
          have hB5 : B3 ≤ w5.heap.size := Nat.le_trans hB4 hb5.size
          have T4 := Lib.hid (T3.out.belowB HS.out hb5)
          have R6 : Hid (RowS w5 B3 v1 n1) := by rw [Hid, NS.out]; exact r1
          have R7 : Hid (RowS w5 B3 u10 m2) := World.ownsRow.kept (World.ownsRow.alloc R5.out _) hg SP2
          have SP3 : SepV v1 u10 := by
            rcases ho with e | e
            · unfold SepV at SP2 ⊢; rw [e]; exact SP2
            · cases hv : u10.ownBlock with
              | none => exact .inl hv
              | some g =>
                have := (R5.out.lt g hv).2
                exact .inr (by rw [hv, e]; intro x; injection x with x; omega)
          clear r1 hg ho hba hb5 T3 R4 R5 hB4 NS SP2
          have KL := Lib.hid (lasts_any T4.out.d j hlt)
          generalize txt ((List.replicate 6 blank64).getD j blank64) = t2 at KL LS
          go_wp2_with fail
          refine KL.out.mono ?_
          rintro e w6 ⟨rfl, rfl⟩
          have hm2 : m2.length ≤ 100 := by omega
          go_wp2_with (at_builtin; refine append_str rfl _ _ rfl B3 u10 m2 t2 rfl R7.out rfl hm2 hB5 ?_)
          intro v2 w6 r2 hg ho
          have hba : Below B3 w5 (w5.alloc (.cells #[.string t2] 9)) := (Below.refl _ _).alloc hB5 _
          have hb6 : Below B3 w5 w6 := hba.grown hg (by rw [World.size_alloc]; omega) (fun g hgk => (R7.out.lt g hgk).1)
          have hB6 : B3 ≤ w6.heap.size := Nat.le_trans hB5 hb6.size
          have T5 := Lib.hid (T4.out.belowB HS.out hb6)
          have R8 : Hid (RowS w6 B3 v2 n2) := by rw [Hid, LS.out]; exact r2
          have R9 : Hid (RowS w6 B3 v1 n1) := World.ownsRow.kept (World.ownsRow.alloc R6.out _) hg (by
            rcases SP3 with e | e
            · rw [e]
              cases v1.ownBlock with
              | none => exact .inl rfl
              | some g => exact .inr (fun x => by cases x)
            · exact .inr (fun x => e x.symm))
          have SP4 : SepV v1 v2 := by
            rcases ho with e | e
            · unfold SepV at SP3 ⊢; rw [e]; exact SP3
            · right
              rw [e]
              intro x
              have := (R6.out.lt _ x.symm).2
              omega
          clear r2 hg ho hba hb6 T4 R6 R7 hB5 LS SP3 KL
          go_wp2
          go_roundw
          case rel => exact ⟨j + 1, by omega, by go_num, T5, by rw [← HN1.out]; exact R9, by rw [← HN2.out]; exact R8, SP4, hB6⟩
          case measure => simp [intOf]; omega
        · have hj2 : (6 : Int) ≤ (j : Int) := by omega
          obtain rfl : j = 6 := by omega
          obtain ⟨g1, c1, rfl, hg1, hc1⟩ := R2.out.cells (by rw [nowT_len]; omega)
          obtain ⟨g2, c2, rfl, hg2, hc2⟩ := R3.out.cells (by rw [lastT_len]; omega)
          rw [nowT_len] at hc1 ⊢
          rw [lastT_len] at hc2 ⊢
          have CA : Hid (∀ j, j < 6 → wa.cell? ⟨g1, j, none⟩ = some (.string (txt (secAt (List.replicate 6 blank64) fd j)))) := fun j hj => by rw [hc1 j hj, nowT_get fd 6 j hj]
          have CB : Hid (∀ j, j < 6 → wa.cell? ⟨g2, j, none⟩ = some (.string (txt ((List.replicate 6 blank64).getD j blank64)))) := fun j hj => by rw [hc2 j hj, lastT_get 6 j hj]
          have T3 := Lib.hid (T2.out.mono (c' := 6 + 0) (by omega))
          have hgg : B3 ≤ g1 ∧ B3 ≤ g2 := ⟨hg1, hg2⟩
          clear R2 R3 SP2 hB2 hc1 hc2 T2 hg1 hg2
          go_wp2
          go_loopw [14] (fun i wr => ∃ (k : Nat) (u lf : Int) (ke : Nat) (lase : List (List UInt8)) (fe : Int → Option (List UInt8)), k ≤ A.length ∧ i = .int .i64 k ∧ Hid (Two w wr D P L M E L2 M2 (6 + k) u lf kd ke (List.replicate 6 blank64) fd lase fe) ∧ Hid (∀ j, j < 6 → World.cell? wr ⟨g1, j, none⟩ = some (.string (txt (secAt (List.replicate 6 blank64) fd j)))) ∧ Hid (∀ j, j < 6 → World.cell? wr ⟨g2, j, none⟩ = some (.string (txt ((List.replicate 6 blank64).getD j blank64))))) (fun i _ => A.length - (intOf i).toNat)
          case atStart => exact ⟨0, u, lf, 0, _, _, by omega, rfl, T3, CA, CB⟩
          case round =>
            obtain ⟨k, u, lf, ke, lase, fe, hk, rfl, st, CC, CD⟩ := hrel
            rename World => wb
            clear T3 CA CB
            by_cases hlt : k < A.length
            · have hk0 : (0 : Int) ≤ (k : Int) := by omega
              have hk1 : (k : Int) < (A.length : Int) := by omega
              obtain ⟨b, off, rfl, hcells, _⟩ := (HA.out.below st.out.bw).at hlt
              have hok := (HA.out.1 _ (mem_getD hlt))
              have h61 := H10.out _ (mem_getD hlt)
              generalize A.getD k noDa = x at hcells hok h61
              obtain ⟨h6, h200, h40⟩ := h61
              obtain ⟨p1, p2⟩ := HS.out.p
              obtain ⟨y1, y2⟩ := HS.out.l'
              obtain ⟨y3, y4⟩ := HS.out.m'
              obtain ⟨y5, y6⟩ := HS.out.d
              obtain ⟨y7, y8⟩ := HS.out.l
              have hg1 : g1 ≠ P ∧ g1 ≠ L2 ∧ g1 ≠ M2 := ⟨by omega, by omega, by omega⟩
              have hg2 : g2 ≠ P ∧ g2 ≠ L2 ∧ g2 ≠ M2 := ⟨by omega, by omega, by omega⟩
              have DR : Below wb.heap.size wb wb.drew := (Below.refl _ _).drew
              have KX : Hid (∀ (W1 w' : World), Hid (∀ j, j < 6 → World.cell? W1 ⟨g1, j, none⟩ = some (.string (txt (secAt (List.replicate 6 blank64) fd j)))) → Hid (∀ j, j < 6 → World.cell? W1 ⟨g2, j, none⟩ = some (.string (txt ((List.replicate 6 blank64).getD j blank64)))) → DoneE w W1 D P L M E L2 M2 (6 + k) kd (List.replicate 6 blank64) fd w' → ∃ (u' lf' : Int) (ke' : Nat) (lase' : List (List UInt8)) (fe' : Int → Option (List UInt8)), Two w w' D P L M E L2 M2 (6 + k + 1) u' lf' kd ke' (List.replicate 6 blank64) fd lase' fe' ∧ (∀ j, j < 6 → World.cell? w' ⟨g1, j, none⟩ = some (.string (txt (secAt (List.replicate 6 blank64) fd j)))) ∧ (∀ j, j < 6 → World.cell? w' ⟨g2, j, none⟩ = some (.string (txt ((List.replicate 6 blank64).getD j blank64))))) := fun W1 w' q1 q2 hD => by
                obtain ⟨u', lf', ke', lase', fe', t, hf⟩ := hD
                exact ⟨u', lf', ke', lase', fe', t, fun j hj => hf.cell (q1.out j hj) hg1.1 hg1.2.1 hg1.2.2, fun j hj => hf.cell (q2.out j hj) hg2.1 hg2.2.1 hg2.2.2⟩
              have K0 := Lib.hid ((e_write HS.out (st.out.below DR) (by omega) x hok h6).mono fun e w' hh => (⟨hh.1, Lib.hid (KX.out wb.drew w' CC CD hh.2)⟩ : (∃ r, e = .returned (.int .i64 r)) ∧ Hid (∃ (u' lf' : Int) (ke' : Nat) (lase' : List (List UInt8)) (fe' : Int → Option (List UInt8)), Two w w' D P L M E L2 M2 (6 + k + 1) u' lf' kd ke' (List.replicate 6 blank64) fd lase' fe' ∧ (∀ j, j < 6 → World.cell? w' ⟨g1, j, none⟩ = some (.string (txt (secAt (List.replicate 6 blank64) fd j)))) ∧ (∀ j, j < 6 → World.cell? w' ⟨g2, j, none⟩ = some (.string (txt ((List.replicate 6 blank64).getD j blank64)))))))
              have K1 := Lib.hid ((e_sync HS.out st.out (by omega)).mono fun e w' hh => (⟨hh.1, Lib.hid (KX.out _ w' CC CD hh.2)⟩ : (∃ r, e = .returned (.int .i64 r)) ∧ Hid (∃ (u' lf' : Int) (ke' : Nat) (lase' : List (List UInt8)) (fe' : Int → Option (List UInt8)), Two w w' D P L M E L2 M2 (6 + k + 1) u' lf' kd ke' (List.replicate 6 blank64) fd lase' fe' ∧ (∀ j, j < 6 → World.cell? w' ⟨g1, j, none⟩ = some (.string (txt (secAt (List.replicate 6 blank64) fd j)))) ∧ (∀ j, j < 6 → World.cell? w' ⟨g2, j, none⟩ = some (.string (txt ((List.replicate 6 blank64).getD j blank64)))))))
              have K4 := Lib.hid ((e_crash HS.out st.out x hok h40).mono fun e w' hh => (⟨hh.1, Lib.hid (KX.out _ w' CC CD hh.2)⟩ : e = .returned (.tuple #[]) ∧ Hid (∃ (u' lf' : Int) (ke' : Nat) (lase' : List (List UInt8)) (fe' : Int → Option (List UInt8)), Two w w' D P L M E L2 M2 (6 + k + 1) u' lf' kd ke' (List.replicate 6 blank64) fd lase' fe' ∧ (∀ j, j < 6 → World.cell? w' ⟨g1, j, none⟩ = some (.string (txt (secAt (List.replicate 6 blank64) fd j)))) ∧ (∀ j, j < 6 → World.cell? w' ⟨g2, j, none⟩ = some (.string (txt ((List.replicate 6 blank64).getD j blank64)))))))
              have K5 := Lib.hid ((e_put HS.out (st.out.below DR) x.n (txt (joined x.dl)) (by rw [txt_size]; exact h200)).mono fun e w' hh => (⟨hh.1, Lib.hid (KX.out wb.drew w' CC CD hh.2)⟩ : (∃ r, e = .returned (.int .i64 r)) ∧ Hid (∃ (u' lf' : Int) (ke' : Nat) (lase' : List (List UInt8)) (fe' : Int → Option (List UInt8)), Two w w' D P L M E L2 M2 (6 + k + 1) u' lf' kd ke' (List.replicate 6 blank64) fd lase' fe' ∧ (∀ j, j < 6 → World.cell? w' ⟨g1, j, none⟩ = some (.string (txt (secAt (List.replicate 6 blank64) fd j)))) ∧ (∀ j, j < 6 → World.cell? w' ⟨g2, j, none⟩ = some (.string (txt ((List.replicate 6 blank64).getD j blank64)))))))
              have KJ := Lib.hid ((join_any x.da x.dl x.dc wb.drew (by omega) (hok.ds.below (st.out.below DR).bw) hok.dz).mono fun _ _ hh => (⟨hh.1, hh.2.symm⟩ : _ ∧ _))
              have KZ : Hid (∃ (u' lf' : Int) (ke' : Nat) (lase' : List (List UInt8)) (fe' : Int → Option (List UInt8)), Two w wb D P L M E L2 M2 (6 + k + 1) u' lf' kd ke' (List.replicate 6 blank64) fd lase' fe' ∧ (∀ j, j < 6 → World.cell? wb ⟨g1, j, none⟩ = some (.string (txt (secAt (List.replicate 6 blank64) fd j)))) ∧ (∀ j, j < 6 → World.cell? wb ⟨g2, j, none⟩ = some (.string (txt ((List.replicate 6 blank64).getD j blank64))))) := ⟨u, lf, ke, lase, fe, st.out.mono (by omega), CC.out, CD.out⟩
              obtain ⟨c0, c1, c2, c3, c4⟩ := hcells
              clear st CC CD hok KX DR h6 h200 h40
              generalize txt (joined x.dl) = tj at *
              generalize x.dl.length = dn at *
              generalize x.kl.length = kn at *
              generalize x.k = xk at *
              generalize x.n = xn at *
              generalize x.da = da at *
              generalize x.dc = dc at *
              generalize x.ka = ka at *
              generalize x.kc = kc at *
              go_upto_block 6 with fail
              go_cut [] from 91 to 132 (fun wx => ∃ (u' lf' : Int) (ke' : Nat) (lase' : List (List UInt8)) (fe' : Int → Option (List UInt8)), Two w wx D P L M E L2 M2 (6 + k + 1) u' lf' kd ke' (List.replicate 6 blank64) fd lase' fe' ∧ (∀ j, j < 6 → World.cell? wx ⟨g1, j, none⟩ = some (.string (txt (secAt (List.replicate 6 blank64) fd j)))) ∧ (∀ j, j < 6 → World.cell? wx ⟨g2, j, none⟩ = some (.string (txt ((List.replicate 6 blank64).getD j blank64)))))
              case first =>
                by_cases e0 : xk = 0
                · subst e0
                  go_wp2_with fail
                  go_still_tail 11, (by kernel_rfl)
                  change wpList _ _ _ _ _ wb.drew
                  go_wp2_with fail
                  refine K0.out.mono ?_
                  rintro e w5 ⟨⟨r, rfl⟩, g⟩
                  go_wp2_with fail
                  go_meet
                  exact g.out
                have e0 : (xk == 0) = false := by rw [beq_eq_false_iff_ne]; exact e0
                by_cases e1 : xk = 1
                · subst e1
                  go_wp2_with fail
                  refine K1.out.mono ?_
                  rintro e w5 ⟨⟨r, rfl⟩, g⟩
                  go_wp2_with fail
                  go_meet
                  exact g.out
                have e1 : (xk == 1) = false := by rw [beq_eq_false_iff_ne]; exact e1
                by_cases e4 : xk = 4
                · subst e4
                  go_wp2_with fail
                  refine K4.out.mono ?_
                  rintro e w5 ⟨rfl, g⟩
                  go_wp2_with fail
                  go_meet
                  exact g.out
                have e4 : (xk == 4) = false := by rw [beq_eq_false_iff_ne]; exact e4
                by_cases e5 : xk = 5
                · subst e5
                  go_wp2_with fail
                  go_still_tail 12, (by kernel_rfl)
                  still_call KJ.out
                  repeat still_step
                  refine wpStill_nil ?_
                  change wpList _ _ _ _ _ wb.drew
                  go_wp2_with fail
                  refine K5.out.mono ?_
                  rintro e w5 ⟨⟨r, rfl⟩, g⟩
                  go_wp2_with fail
                  go_meet
                  exact g.out
                have e5 : (xk == 5) = false := by rw [beq_eq_false_iff_ne]; exact e5
                go_wp2_with fail
                go_meet
                exact KZ.out
              case rest =>

              rename World => wc
              clear K0 K1 K4 K5 KJ KZ c0 c1 c2 c3 c4 hg1 hg2 p1 p2 y1 y2 y3 y4 y5 y6 y7 y8
              obtain ⟨u5, lf5, ke5, lase5, fe5, T2, hC1, hC2⟩ := hcut
              have T2 := Lib.hid T2
              have hC1 : Hid (∀ j, j < 6 → World.cell? wc ⟨g1, j, none⟩ = some (.string (txt (secAt (List.replicate 6 blank64) fd j)))) := hC1
              have hC2 : Hid (∀ j, j < 6 → World.cell? wc ⟨g2, j, none⟩ = some (.string (txt ((List.replicate 6 blank64).getD j blank64)))) := hC2
              have C1 := hC1
              have C2 := hC2
              go_wp2
              go_loopw [15] (fun i wr => ∃ q : Nat, q ≤ 6 ∧ i = .int .i64 q ∧ Hid (Two w wr D P L M E L2 M2 (6 + k + 1) u5 lf5 kd ke5 (List.replicate 6 blank64) fd lase5 fe5) ∧ Hid (∀ j, j < 6 → wr.cell? ⟨g1, j, none⟩ = some (.string (txt (secAt (List.replicate 6 blank64) fd j)))) ∧ Hid (∀ j, j < 6 → wr.cell? ⟨g2, j, none⟩ = some (.string (txt ((List.replicate 6 blank64).getD j blank64))))) (fun i _ => 6 - (intOf i).toNat)
              case atStart => exact ⟨0, by omega, rfl, T2, C1, C2⟩
              case round =>
                obtain ⟨q, hq, rfl, T3, C3, C4⟩ := hrel
                clear T2 C1 C2 hC1 hC2
                by_cases hlq : q < 6
                · have KR := Lib.hid ((read_any T3.out.d q hlq (by omega) (fun l h => (T3.out.fd _ l h).2.2)).mono fun e w' hh => (⟨hh.1, Lib.hid (T3.out.below hh.2), Lib.hid (fun j hj => keep_cell hh.2 (C3.out j hj)), Lib.hid (fun j hj => keep_cell hh.2 (C4.out j hj))⟩ : e = .returned (.tuple #[.string (txt (secAt (List.replicate 6 blank64) fd q)), .int .i64 0]) ∧ Hid (Two w w' D P L M E L2 M2 (6 + k + 1) u5 lf5 kd ke5 (List.replicate 6 blank64) fd lase5 fe5) ∧ Hid (∀ j, j < 6 → w'.cell? ⟨g1, j, none⟩ = some (.string (txt (secAt (List.replicate 6 blank64) fd j)))) ∧ Hid (∀ j, j < 6 → w'.cell? ⟨g2, j, none⟩ = some (.string (txt ((List.replicate 6 blank64).getD j blank64))))))
                  have hq0 : (0 : Int) ≤ (q : Int) := by omega
                  have hq6 : (q : Int) < 6 := by omega
                  clear T3 C3 C4
                  go_wp2_with fail
                  refine KR.out.mono ?_
                  rintro e w5 ⟨rfl, T4, C5, C6⟩
                  clear KR
                  have T5 := Lib.hid (T4.out.below ((Below.refl _ _).drew))
                  have C7 : Hid (∀ j, j < 6 → w5.drew.cell? ⟨g1, j, none⟩ = some (.string (txt (secAt (List.replicate 6 blank64) fd j)))) := C5
                  have C8 : Hid (∀ j, j < 6 → w5.drew.cell? ⟨g2, j, none⟩ = some (.string (txt ((List.replicate 6 blank64).getD j blank64)))) := C6
                  have KL := Lib.hid ((lasts_any T5.out.d q hlq).mono fun _ _ hh => (⟨hh.1, hh.2.symm⟩ : _ ∧ _))
                  have x1 := C5.out q hlq
                  have x2 := C6.out q hlq
                  generalize txt (secAt (List.replicate 6 blank64) fd q) = t1 at x1 ⊢
                  generalize txt ((List.replicate 6 blank64).getD q blank64) = t2 at x2 KL
                  clear T4 C5 C6
                  go_wp2_with fail
                  refine wp_region_still_lit (by kernel_rfl) (by kernel_rfl) ?_
                  repeat still_step
                  still_call KL.out
                  repeat still_step
                  refine wpStill_nil ?_
                  change Exit.then _ _ _ _ w5.drew
                  go_wp2
                  go_roundw
                  case rel => exact ⟨_, _, _, _, _, _, _, _, _, _, _, _, _, _, _, _, _, _, _, _, _, _, _, _, _, _, _, _, _, _, _, _, _, _, ⟨q + 1, by omega, by go_num, T5, C7, C8⟩, rfl⟩
                  case measure => simp [intOf]; omega
                · have hq6 : (6 : Int) ≤ (q : Int) := by omega
                  go_wp2
                  go_roundw
                  case rel => exact ⟨k + 1, u5, lf5, ke5, lase5, fe5, by omega, by go_num, T3.out, C3, C4⟩
                  case measure => simp [intOf]; omega
            · have hk1 : (A.length : Int) ≤ (k : Int) := by omega
              go_wp2
              go_ret
              exact ⟨rfl, st.out.bw⟩
end Go.Proofs.Ytmoadcjfgnemfaa
