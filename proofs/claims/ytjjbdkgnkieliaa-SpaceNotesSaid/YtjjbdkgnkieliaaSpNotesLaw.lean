/-
  SpaceNotes: the walk.
-/
import Derived.Test.YtjjbdkgnkieliaaSpNotesC
namespace Go.Proofs.Ytjjbdkgnkieliaa
open Go.RowKit
set_option maxRecDepth 100000 in
set_option maxHeartbeats 8000000 in
theorem spaceNotes_walk (la : Option Addr) (l : List NAct) (lc : Nat) (txn no : Int) (cells : Nat) (W : World) (hl : NActs W la l) (hln : l.length ≤ maxLen) (hx : ∀ i, i < l.length → NAOk W (l.getD i noNA)) (ht : (Lit.int .i64 txn).wf = true) (hno : (Lit.int .i64 no).wf = true) :
    Calls Try.prog 3 #[.slice la l.length lc, .int .i64 txn, .int .i64 no, .int .u8 (cells : Int)] W fun e w' => e = .returned (.bool true) ∧ Below W.heap.size W w' := by
  have KG := Lib.hid (greatN_any hl lc hln)
  have KA := Lib.hid (awake_any W)
  cases hg : greatN l with
  | true =>
    rw [hg] at KG
    clear hg
    go_enter Try.func3, Try.ntmps3
    go_wp2_with fail
    refine KG.out.mono ?_
    rintro x w1 ⟨rfl, rfl⟩
    go_wp2_with fail
    refine KA.out.mono ?_
    rintro x w1 ⟨rfl, hb⟩
    go_wp2
    go_ret
    exact ⟨rfl, hb⟩
  | false =>
    rw [hg] at KG
    obtain ⟨h60, h10⟩ := greatN_no hg
    have HX := Lib.hid hx
    have HL := Lib.hid hl
    have H10 := Lib.hid h10
    obtain ⟨N, hN⟩ : ∃ N, N = l.length := ⟨_, rfl⟩
    have HNN := Lib.hid hN
    rw [← hN] at KG h60 ⊢
    clear hg hx hl hln h10 hN
    obtain ⟨c, hc⟩ : ∃ c, c = cells % 10 := ⟨_, rfl⟩
    have hc9 : c ≤ 9 := by omega
    have e0 : ((cells : Int)).tmod 10 = (c : Int) := by rw [hc]; rfl
    have e00 : IntKind.i64.wrap (c : Int) = (c : Int) := IntWalk.i64_in _ (by omega)
    clear hc
    go_enter Try.func3, Try.ntmps3
    go_wp2_with fail
    refine KG.out.mono ?_
    rintro x w1 ⟨rfl, rfl⟩
    clear KG
    go_wp2_with fail
    refine KA.out.mono ?_
    rintro x w1 ⟨rfl, hb⟩
    have KN := Lib.hid (new_any w1)
    clear KA
    go_wp2_with fail
    refine KN.out.mono ?_
    rintro x w2 ⟨S, T, A, rfl, hsp, hbn, hS, hT, hAA⟩
    have bel := hb.trans (hbn.out.mono hb.size)
    obtain ⟨B, hB⟩ : ∃ B, B = w2.heap.size := ⟨_, rfl⟩
    have lts := hsp.out.lts
    have z1 := hb.size
    have S0 : Hid (NtE W w2 B S T A (30 * 0) (10 * 0) (.slice none 0 0)) := ⟨[], _, bk0, { sp := hsp.out, ok := NotOk.start, row := ⟨rfl, .inl ⟨rfl, rfl⟩⟩, bel := bel, size := by omega, sB := by omega, wB := by have := bel.size; omega, bT := by omega, bA := by omega, bo := fun t x e => (by cases e) }, Nat.le_refl _⟩
    clear KN hsp hbn hb bel hB lts z1 hS hT hAA
    go_wp2
    go_loopw [10, 12] (fun vv ii w' => ∃ i : Nat, i ≤ N ∧ ii = .int .i64 i ∧ Hid (NtE W w' B S T A (30 * i) (10 * i) vv)) (fun _ ii _ => N - (intOf ii).toNat)
    case atStart => exact ⟨0, Nat.zero_le _, rfl, S0⟩
    case round =>
      obtain ⟨i, hi, rfl, hs⟩ := hrel
      rename World => wr
      clear S0
      by_cases hlt : i < N
      · have hil : i < l.length := by have := HNN.out; omega
        obtain ⟨b0, off, rfl, hcl⟩ : ∃ b0 off, la = some ⟨b0, off, none⟩ ∧ ∀ i, i < l.length → W.cell? ⟨b0, off + i * 3, none⟩ = some (.int .i64 (l.getD i noNA).k) ∧ W.cell? ⟨b0, off + i * 3 + 1, none⟩ = some (.int .i64 (l.getD i noNA).t) ∧ W.cell? ⟨b0, off + i * 3 + 2, none⟩ = some (.slice (l.getD i noNA).ma (l.getD i noNA).ml.length (l.getD i noNA).mc) := by
          rcases HL.out with h | h
          · rw [h] at hil; simp at hil
          · exact h
        obtain ⟨q0, q1, q2⟩ := hcl i hil
        have hok := HX.out i hil
        have hm10 := H10.out i hil
        obtain ⟨y, hy⟩ : ∃ y, y = l.getD i noNA := ⟨_, rfl⟩
        rw [← hy] at q0 q1 q2 hok hm10
        have hbel : Below W.heap.size W wr := by obtain ⟨_, _, _, h, _⟩ := hs.out; exact h.bel
        have c0 := keepc3 hbel q0
        have c1 := keepc3 hbel q1
        have c2 := keepc3 hbel q2
        have KD := Lib.hid (does_any hs.out y hok (by omega) (by omega) hm10)
        have hlt' : (i : Int) < (N : Int) := by omega
        clear hcl q0 q1 q2 hok hm10 hy hbel hs
        go_wp2_with fail
        refine KD.out.mono ?_
        rintro x w2 ⟨v', rfl, hs2⟩
        obtain ⟨L, o, b, hs3, hlen⟩ := hs2.out
        obtain ⟨a0, cc, hva⟩ := hs3.row.form
        obtain ⟨m, hm⟩ : ∃ m, m = L.length := ⟨_, rfl⟩
        have HS := Lib.hid hs3
        have HM := Lib.hid hm
        rw [← hm] at hva hlen
        subst hva
        clear KD hs2 hs3 hm c0 c1 c2
        have hmB : m ≤ 610 := by omega
        go_wp2
        go_loopw [13, 14, 15] (fun aa oo kk w' => w2 = w' ∧ ∃ k : Nat, k ≤ m ∧ kk = .int .i64 k ∧ aa = .int .i64 (sumP no (L.take k)) ∧ oo = .int .i64 (nget txn no (L.take k))) (fun _ _ kk _ => m - (intOf kk).toNat)
        case atStart => exact ⟨rfl, 0, Nat.zero_le _, rfl, rfl, rfl⟩
        case round =>
          obtain ⟨rfl, k, hk, rfl, rfl, rfl⟩ := hrel
          by_cases hkl : k < m
          · have hkL : k < L.length := by have := HM.out; omega
            obtain ⟨g, c9, hv, _, _⟩ := HS.out.row.there (by omega)
            injection hv with hv1 hv2 hv3
            subst hv1
            obtain ⟨y0, y1, y2⟩ := HS.out.row.cell k hkL
            have hs1 := sum_step no L k hkL
            have hs2 := nget_step txn no HS.out.ok.dist k hkL
            have hp1 := sum_part no HS.out.ok.nn (k + 1)
            have hab := (HS.out.sp.ab no).2
            rw [HS.out.ok.all] at hab
            have hkl' : (k : Int) < (m : Int) := by omega
            obtain ⟨z, hz⟩ : ∃ z, z = L.getD k noNd := ⟨_, rfl⟩
            rw [← hz] at y0 y1 y2 hs1 hs2
            obtain ⟨z0, z1, z2⟩ := z
            dsimp only at y0 y1 y2 hs1 hs2
            obtain ⟨aa, haa⟩ : ∃ aa, aa = sumP no (L.take k) := ⟨_, rfl⟩
            obtain ⟨oo, hoo⟩ : ∃ oo, oo = nget txn no (L.take k) := ⟨_, rfl⟩
            rw [← haa] at hs1 ⊢
            rw [← hoo] at hs2 ⊢
            by_cases e1 : z1 = no
            · rw [if_pos e1] at hs1 hs2
              have w9 : IntKind.i64.wrap (aa + z2) = aa + z2 := IntWalk.i64_in _ (by omega)
              subst e1
              by_cases e0 : z0 = txn
              · rw [if_pos e0] at hs2
                subst e0
                have HA := Lib.hid hs1
                have HO := Lib.hid hs2
                clear hs1 hs2 hp1 hab haa hoo hz hv2 hv3
                go_wp2
                go_round
                case rel => exact ⟨trivial, k + 1, by omega, by go_num, by rw [HA.out], by rw [HO.out]⟩
                case measure => simp [intOf]; omega
              · rw [if_neg e0] at hs2
                have HA := Lib.hid hs1
                have HO := Lib.hid hs2
                clear hs1 hs2 hp1 hab haa hoo hz hv2 hv3
                go_wp2
                go_round
                case rel => exact ⟨trivial, k + 1, by omega, by go_num, by rw [HA.out], by rw [HO.out]⟩
                case measure => simp [intOf]; omega
            · rw [if_neg e1, Int.add_zero] at hs1
              rw [if_neg e1] at hs2
              have HA := Lib.hid hs1
              have HO := Lib.hid hs2
              clear hs1 hs2 hp1 hab haa hoo hz hv2 hv3
              go_wp2
              go_round
              case rel => exact ⟨trivial, k + 1, by omega, by go_num, by rw [HA.out], by rw [HO.out]⟩
              case measure => simp [intOf]; omega
          · have e : k = L.length := by have := HM.out; omega
            rw [e, List.take_length]
            have ha := HS.out.ok.all no
            have ho := HS.out.ok.own txn no
            have hgb := HS.out.sp.gb txn no
            have hab := HS.out.sp.ab no
            have hle := HS.out.ok.le txn no
            obtain ⟨aa, haa⟩ : ∃ aa, aa = sumP no L := ⟨_, rfl⟩
            obtain ⟨oo, hoo⟩ : ∃ oo, oo = nget txn no L := ⟨_, rfl⟩
            rw [← haa] at ha ⊢
            rw [← hoo] at ho ⊢
            rw [ho] at hgb hle
            rw [ha] at hab hle
            have KP := Lib.hid (page_any no c (by omega) w2)
            clear haa hoo
            go_wp2_with fail
            refine KP.out.mono ?_
            rintro x w3 ⟨ca, c8, rfl, hp⟩
            have hbX := (Below.refl w3.heap.size w3).alloc (Nat.le_refl _) (.cells #[.int .i64 no, .int .i64 0, .slice ca c c8] 36)
            have S3 := Lib.hid ((HS.out.below hp).below hbX)
            have p0 : (w3.alloc (.cells #[.int .i64 no, .int .i64 0, .slice ca c c8] 36)).cell? ⟨w3.heap.size, 0, none⟩ = some (.int .i64 no) := new_cell rfl rfl
            have p1 : (w3.alloc (.cells #[.int .i64 no, .int .i64 0, .slice ca c c8] 36)).cell? ⟨w3.heap.size, 1, none⟩ = some (.int .i64 0) := new_cell rfl rfl
            have p2 : (w3.alloc (.cells #[.int .i64 no, .int .i64 0, .slice ca c c8] 36)).cell? ⟨w3.heap.size, 2, none⟩ = some (.slice ca c c8) := new_cell rfl rfl
            go_upto_region 19 with fail
            generalize hX : w3.alloc (.cells #[.int .i64 no, .int .i64 0, .slice ca c c8] 36) = X at *
            clear hX hbX hp KP HS
            have KA := Lib.hid (all_any S3.out.sp no hno)
            have KN := Lib.hid (need_any S3.out.sp txn no ht hno)
            rw [ha] at KA
            rw [ho] at KN
            have KR := room_any S3.out.sp (by omega) txn no 0 ca c c8 (by omega) ht hno
            have KM : ∀ W', Below X.heap.size X W' → Calls Try.prog 15 #[.pointer (some ⟨S, 0, none⟩), .int .i64 txn, .agg #[.int .i64 no, .int .i64 0, .slice ca c c8]] W' fun e w' => e = .returned (.bool (decide ((c : Int) + 1 + (aa - oo) + max 0 (oo - 1) ≤ 8))) ∧ Below W'.heap.size W' w' := fun W' hb => by
              have h := may_any (S3.out.below hb).sp (by omega) txn no 0 ca c c8 (by omega) ht hno
              rw [ho, ha] at h; exact h
            rw [ho, ha] at KR
            have hab2 : aa ≤ 2000 := by omega
            have BEL := Lib.hid S3.out.bel
            obtain ⟨d, hd⟩ : ∃ d, d = aa - oo := ⟨_, rfl⟩
            rw [← hd] at KR
            simp only [← hd] at KM
            have wd : IntKind.i64.wrap (aa - oo) = d := by rw [hd]; exact IntWalk.i64_in _ (by omega)
            have hd0 : 0 ≤ d ∧ d ≤ 2000 := by omega
            have w1 : IntKind.i64.wrap (8 - (c : Int)) = 8 - (c : Int) := IntWalk.i64_in _ (by omega)
            have w2 : IntKind.i64.wrap (8 - (c : Int) - d) = 8 - (c : Int) - d := IntWalk.i64_in _ (by omega)
            have w3' : IntKind.i64.wrap ((c : Int) + 1) = (c : Int) + 1 := IntWalk.i64_in _ (by omega)
            have w4 : IntKind.i64.wrap ((c : Int) + 1 + d) = (c : Int) + 1 + d := IntWalk.i64_in _ (by omega)
            have w5 : IntKind.i64.wrap (oo - 1) = oo - 1 := IntWalk.i64_in _ (by omega)
            obtain ⟨rm, hrm⟩ : ∃ rm, rm = max 0 (8 - (c : Int) - d) := ⟨_, rfl⟩
            obtain ⟨mx, hmx⟩ : ∃ mx, mx = max 0 (oo - 1) := ⟨_, rfl⟩
            have w6 : IntKind.i64.wrap ((c : Int) + 1 + d + mx) = (c : Int) + 1 + d + mx := IntWalk.i64_in _ (by omega)
            have v1 : (if d < 8 - (c : Int) then 8 - (c : Int) - d else 0) = rm := by rw [hrm]; split <;> omega
            have v2 : (if 8 - (c : Int) < d then 0 else 8 - (c : Int) - d) = rm := by rw [hrm]; split <;> omega
            have v3 : (if 1 < oo then oo - 1 else 0) = mx := by rw [hmx]; split <;> omega
            have v5 : (if oo - 1 < 0 then 0 else oo - 1) = mx := by rw [hmx]; split <;> omega
            have v6 : (if 8 - (c : Int) - d < 0 then 0 else 8 - (c : Int) - d) = rm := by rw [hrm]; split <;> omega
            have v4 : (if oo < 1 then 0 else oo - 1) = mx := by rw [hmx]; split <;> omega
            rw [← hrm] at KR
            simp only [← hmx] at KM
            have KR := Lib.hid KR
            have XS : Hid (NtS W X B S T A (30 * i + 30) (.slice a0 m cc) L o b) := S3
            clear hd hd0 hrm hmx ha ho hgb hab hle hab2 S3
            by_cases hq : (c : Int) + 1 + d + mx ≤ 8
            · simp only [decide_eq_true hq] at KM
              have KM := Lib.hid KM
              go_wp2_with fail
              refine KA.out.mono ?_
              rintro x w4 ⟨rfl, rfl⟩
              go_wp2_with fail
              refine KN.out.mono ?_
              rintro x w4 ⟨rfl, rfl⟩
              go_wp2_with fail
              refine KR.out.mono ?_
              rintro x w4 ⟨rfl, hb4⟩
              have p0 := keepc3 hb4 p0
              have p1 := keepc3 hb4 p1
              have p2 := keepc3 hb4 p2
              have KM2 := Lib.hid (KM.out w4 hb4)
              clear KA KN KR KM
              go_wp2_with fail
              all_goals
                refine KM2.out.mono ?_
                rintro x w5 ⟨rfl, hb5⟩
                have hN : Hid (NtE W w5 B S T A (30 * (i + 1)) (10 * (i + 1)) (.slice a0 m cc)) := ⟨L, o, b, ((XS.out.below hb4).below hb5).mono (by omega), by have := HM.out; omega⟩
                clear KM2 hb5
                go_wp2
                go_round
                case rel => exact ⟨i + 1, by omega, by go_num, hN⟩
                case measure => simp [intOf]; omega
            · have hq' : 8 < (c : Int) + 1 + d + mx := by omega
              simp only [decide_eq_false hq] at KM
              have KM := Lib.hid KM
              go_wp2_with fail
              refine KA.out.mono ?_
              rintro x w4 ⟨rfl, rfl⟩
              go_wp2_with fail
              refine KN.out.mono ?_
              rintro x w4 ⟨rfl, rfl⟩
              go_wp2_with fail
              refine KR.out.mono ?_
              rintro x w4 ⟨rfl, hb4⟩
              have p0 := keepc3 hb4 p0
              have p1 := keepc3 hb4 p1
              have p2 := keepc3 hb4 p2
              have KM2 := Lib.hid (KM.out w4 hb4)
              clear KA KN KR KM
              go_wp2_with fail
              all_goals
                refine KM2.out.mono ?_
                rintro x w5 ⟨rfl, hb5⟩
                have hN : Hid (NtE W w5 B S T A (30 * (i + 1)) (10 * (i + 1)) (.slice a0 m cc)) := ⟨L, o, b, ((XS.out.below hb4).below hb5).mono (by omega), by have := HM.out; omega⟩
                clear KM2 hb5
                go_wp2
                go_round
                case rel => exact ⟨i + 1, by omega, by go_num, hN⟩
                case measure => simp [intOf]; omega
      · go_wp2
        go_ret
        obtain ⟨_, _, _, h, _⟩ := hs.out
        exact ⟨rfl, h.bel⟩
end Go.Proofs.Ytjjbdkgnkieliaa
