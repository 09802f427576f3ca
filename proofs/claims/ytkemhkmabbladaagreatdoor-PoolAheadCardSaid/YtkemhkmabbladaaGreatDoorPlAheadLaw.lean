/-
  PoolAhead: the walk.
-/
import Derived.Test.YtkemhkmabbladaaGreatDoorPlw
import Derived.Test.YtkemhkmabbladaaGreatDoorPlAwake
import Derived.Test.YtkemhkmabbladaaGreatDoorPlGreat
import Derived.Deep.Cut
import Derived.Deep.CutRange
import Derived.Deep.CutBlock
import Derived.Deep.DeepCutAuto
namespace Go.Proofs.YtkemhkmabbladaaGreatDoor
open Go.RowKit
theorem ah_new {w W : World} {D P L M T Q MF room : Nat} (h : PlS w W D P L M (5 + 4 * 4) (0 + (5 + 4 * 4) + 1) T 4 (fun _ => (0, [])) Q room MF 0 (fun _ => none) (fun _ => noFr)) :
    Ah w W D P L M 21 T 4 Q room MF 0 0 22 0 none :=
  ⟨22, fun _ => (0, []), 0, fun _ => none, fun _ => noFr, h, Nat.le_refl _, Nat.le_refl _, (fun i F e => (by cases e)), (fun i F e => (by cases e)), fun j _ => ⟨rfl, Int.le_refl _, Int.le_refl _⟩, fun j _ => ⟨rfl, Int.le_refl _, Int.le_refl _⟩, fun i e => (by cases e)⟩
theorem Ah.q0 {w W : World} {D P L M n T np Q room MF : Nat} {H G : Int} {b kk : Nat} {no : Option Int} (h : Ah w W D P L M n T np Q room MF H G b kk no) : W.cell? ⟨Q, 0, none⟩ = some (.pointer (some ⟨T, 0, none⟩)) := by
  obtain ⟨B, now, k, o, fv, h1, _⟩ := h
  exact h1.q0
theorem Ah.low {w W : World} {D P L M n T np Q room MF : Nat} {H G : Int} {b kk : Nat} {no : Option Int} (h : Ah w W D P L M n T np Q room MF H G b kk no) : w.heap.size ≤ Q := by
  obtain ⟨B, now, k, o, fv, h1, _⟩ := h
  exact h1.lo.1
theorem row_low {w : World} {a : Option Addr} {ks : List Int} (h : IRow w a ks) (h0 : 0 < ks.length) : ∀ b off, a = some ⟨b, off, none⟩ → b < w.heap.size := fun b off e => by
  rcases h with rfl | ⟨b2, off2, e2, hc⟩
  · simp at h0
  · rw [e2] at e
    injection e with e
    injection e with e1 _
    rw [← e1]
    have := hc 0 h0
    exact Dv.block_lt (p := ⟨b2, off2 + 0, none⟩) this
/-- The state at the loop's head, and behind the switch. -/
def AhW (w W : World) (D P L M T Q room MF : Nat) (H G : Int) (k : Nat) : Prop := (0 ≤ G ∧ G ≤ k) ∧ 0 ≤ H ∧ Ah w W D P L M 21 T 4 Q room MF H G (22 + 56 * k) k none
theorem getS_any {w : World} {D P L M n T np Q room MF : Nat} {H G : Int} {b kk : Nat} {no : Int} {x : Ending} {w' : World} (h : GetS w D P L M n T np Q room MF H G b kk no x w') :
    (∃ v, x = .returned v) ∧ Ah w w' D P L M n T np Q room MF H G b (kk + 1) none := by
  rcases h with ⟨g, a, c, rfl, _, _, _, _, _, h⟩ | ⟨e, _, rfl, h⟩
  · exact ⟨⟨_, rfl⟩, h.more (Int.le_refl _) (Int.le_refl _) (Nat.le_refl _) (Nat.le_refl _)⟩
  · exact ⟨⟨_, rfl⟩, h⟩
theorem AhW.of {w W : World} {D P L M T Q room MF : Nat} {H G H' G' : Int} {b kk k : Nat} {no : Option Int} (h : Ah w W D P L M 21 T 4 Q room MF H G b kk no) (hH : H ≤ H') (hG : G ≤ G') (hb : b ≤ 22 + 56 * k) (hk : kk ≤ k) (h0 : 0 ≤ G' ∧ G' ≤ k) (h1 : 0 ≤ H') : AhW w W D P L M T Q room MF H' G' k :=
  ⟨h0, h1, h.more hH hG hb hk⟩
set_option maxRecDepth 100000 in
set_option maxHeartbeats 16000000 in
theorem poolAhead_walk (rooms : Int) (hr : 0 ≤ rooms ∧ rooms ≤ 255) (la : Option Addr) (Ls : List PAct) (lc : Nat) (w : World) (hn : Ls.length ≤ maxLen) (hA : PActs w la Ls) (ht : Tab w) :
    Calls Tryz.prog 4 #[.int .u8 rooms, .slice la Ls.length lc] w fun x w' => x = .returned (.bool true) ∧ Below w.heap.size w w' := by
  have KG := Lib.hid (great13_any la Ls lc w hn hA)
  have KW := Lib.hid (fun W (hb : Below w.heap.size w W) => awake13_any w W hb ht)
  have HA := Lib.hid hA
  have hj : 0 ≤ rooms.tmod 6 ∧ rooms.tmod 6 < 6 := by rw [Int.tmod_eq_emod_of_nonneg hr.1]; omega
  have hj2 : rooms.tmod 6 = rooms % 6 := Int.tmod_eq_emod_of_nonneg hr.1
  obtain ⟨room, hroom⟩ : ∃ room : Nat, (room : Int) = 1 + rooms % 6 := ⟨(1 + rooms % 6).toNat, by omega⟩
  have hrm : 1 ≤ room ∧ room ≤ 1000000 := by omega
  have KB := Lib.hid (fun W (hb : Below w.heap.size w W) => begin_s w W hb ht 4 (by omega) (by omega) room hrm.1 hrm.2)
  rw [show ((4 : Nat) : Int) = 4 from rfl, hroom] at KB
  clear hA ht hroom hrm
  unfold maxLen at hn
  go_enter Tryz.func4, Tryz.ntmps4
  go_wp2_with fail
  refine KG.out.mono ?_
  rintro x w1 ⟨⟨r, rfl, hfew⟩, hb1⟩
  have B1 := Lib.hid hb1
  have HFEW := Lib.hid hfew
  clear hb1 hfew KG
  cases r with
  | true =>
    go_wp2_with fail
    refine (KW.out _ B1.out).mono ?_
    rintro x w2 ⟨rfl, hb2⟩
    have B2 := Lib.hid hb2
    clear hb2
    go_wp2
    go_ret
    exact ⟨rfl, B2.out⟩
  | false =>
    obtain ⟨h50, h10⟩ := HFEW.out rfl
    have H10 := Lib.hid h10
    clear h10 HFEW
    go_wp2_with fail
    refine (KW.out _ B1.out).mono ?_
    rintro x w2 ⟨rfl, hb2⟩
    have B2 := Lib.hid hb2
    clear hb2 KW B1
    have K1 := Lib.hid (KB.out _ B2.out)
    clear KB
    go_wp2_with fail
    refine K1.out.mono ?_
    rintro x w3 ⟨D, P, L, M, T, Q, MF, rfl, hp3⟩
    have S3 : Hid (AhW w w3 D P L M T Q room MF 0 0 0) := ⟨⟨Int.le_refl _, Int.le_refl _⟩, Int.le_refl _, ah_new hp3⟩
    clear hp3 K1 hj hj2 hr B2
    go_wp2
    go_loopw [7, 8, 9] (fun gv hv iv wr => ∃ (k : Nat) (G H : Int), k ≤ Ls.length ∧ iv = .int .i64 k ∧ gv = .int .i64 G ∧ hv = .int .i64 H ∧ Hid (AhW w wr D P L M T Q room MF H G k)) (fun _ _ iv _ => Ls.length - (intOf iv).toNat)
    case atStart => exact ⟨0, 0, 0, Nat.zero_le _, rfl, rfl, rfl, S3⟩
    case round =>
      obtain ⟨k, G, H, hkl, rfl, rfl, rfl, HS⟩ := hrel
      rename World => wa
      clear S3
      by_cases hlt : k < Ls.length
      · obtain ⟨bb, off, rfl, hc, hok⟩ : ∃ bb off, la = some ⟨bb, off, none⟩ ∧ (∀ j u, (Ls.getD k noPA).cells[j]? = some u → w.cell? ⟨bb, off + k * 9 + j, none⟩ = some u) ∧ PActOk w (Ls.getD k noPA) := by
          rcases HA.out with rfl | ⟨bb, off, e, h⟩
          · simp at hlt
          · exact ⟨bb, off, e, h k hlt⟩
        have hk0 : (k : Int) < (Ls.length : Int) := by omega
        have hk50 : k ≤ 50 := by omega
        have hl10 := H10.out k hlt
        generalize Ls.getD k noPA = x at *
        obtain ⟨xk, xn, xa, xl, xc, key, has, s, pn, pg, pa, pl, pc⟩ := x
        have HC : Hid (∀ W, Below w.heap.size w W → W.cell? ⟨bb, off + k * 9, none⟩ = some (.int .i64 xk) ∧ W.cell? ⟨bb, off + k * 9 + 1, none⟩ = some (.int .i64 xn) ∧ W.cell? ⟨bb, off + k * 9 + 2, none⟩ = some (.slice xa xl.length xc)) := fun W hb => ⟨Dv.keep_cell hb (hc 0 _ rfl), Dv.keep_cell hb (hc 1 _ rfl), Dv.keep_cell hb (hc 2 _ rfl)⟩
        have HOK := Lib.hid hok
        have hl10 : xl.length ≤ 10 := hl10
        clear hc hok
        obtain ⟨⟨hG0, hGk⟩, hH0, hAh⟩ := HS.out
        have HAH := Lib.hid hAh
        clear hAh HS
        obtain ⟨c0, c1, c2⟩ := HC.out wa HAH.out.bw
        go_upto_block 2 with fail
        go_cut [7, 8, 10, 11] from 43 to 115 (fun gv hv xv ev wx => ∃ (G' H' : Int), gv = .int .i64 G' ∧ hv = .int .i64 H' ∧ Hid (AhW w wx D P L M T Q room MF H' G' (k + 1)))
        case first =>
          by_cases e0 : xk = 0
          · subst e0
            have K0 := Lib.hid (ah_get HAH.out (by omega) (by omega) (by omega) (by omega) (by omega) xn HOK.out.nw)
            go_wp2_with fail
            refine K0.out.mono ?_
            intro x5 w5 hg
            obtain ⟨⟨v, rfl⟩, h5⟩ := getS_any hg
            have R5 : Hid (AhW w w5 D P L M T Q room MF H G (k + 1)) := AhW.of h5 (Int.le_refl _) (Int.le_refl _) (by omega) (by omega) ⟨hG0, by omega⟩ hH0
            clear hg h5 K0 HAH c0 c1 c2
            go_wp2_with fail
            go_meet
            exact ⟨G, H, rfl, rfl, R5⟩
          have e0 : (xk == 0) = false := by rw [beq_eq_false_iff_ne]; exact e0
          by_cases e1 : xk = 1
          · subst e1
            have K0 := Lib.hid (ah_get HAH.out (by omega) (by omega) (by omega) (by omega) (by omega) xn HOK.out.nw)
            go_wp2_with fail
            refine K0.out.mono ?_
            rintro x5 w5 (⟨g, a, c, rfl, hno1, hno2, hg0, hgG, hz, h5⟩ | ⟨e, he, rfl, h5⟩)
            · have A5 := Lib.hid h5
              have HZ := Lib.hid hz
              have hba := (Below.refl w5.heap.size w5).alloc (Nat.le_refl _) (.cells #[.int .i64 xn, .int .i64 g, .slice a 0 c] 36)
              have d0 : (w5.alloc (.cells #[.int .i64 xn, .int .i64 g, .slice a 0 c] 36)).cell? ⟨w5.heap.size, 0, none⟩ = some (.int .i64 xn) := Dv.new_cell rfl rfl
              have d1 : (w5.alloc (.cells #[.int .i64 xn, .int .i64 g, .slice a 0 c] 36)).cell? ⟨w5.heap.size, 1, none⟩ = some (.int .i64 g) := Dv.new_cell rfl rfl
              have d2 : (w5.alloc (.cells #[.int .i64 xn, .int .i64 g, .slice a 0 c] 36)).cell? ⟨w5.heap.size, 2, none⟩ = some (.slice a 0 c) := Dv.new_cell rfl rfl
              have df : (w5.alloc (.cells #[.int .i64 xn, .int .i64 g, .slice a 0 c] 36)).frozen? ⟨w5.heap.size, 1, none⟩ = false := World.frozen?_alloc_at _ _ _ _ rfl
              have BA := Lib.hid hba
              clear h5 hz hba K0 HAH c0 c1 c2
              go_upto_region 15 with fail
              generalize w5.alloc (.cells #[.int .i64 xn, .int .i64 g, .slice a 0 c] 36) = Y at *
              have hbs := BA.out.setCell (p := ⟨w5.heap.size, 1, none⟩) (Nat.le_refl _) (.int .i64 (G + 1))
              have oth : ∀ {u : Value} (j : Nat), 1 ≠ j → Y.cell? ⟨w5.heap.size, j, none⟩ = some u → (Y.setCell ⟨w5.heap.size, 1, none⟩ (.int .i64 (G + 1))).cell? ⟨w5.heap.size, j, none⟩ = some u := fun j hne hc => by
                rw [World.cell?_setCell_other _ _ _ _ (fun e => by injection e with _ e; exact hne e)]; exact hc
              have f0 := oth 0 (by decide) d0
              have f1 : (Y.setCell ⟨w5.heap.size, 1, none⟩ (.int .i64 (G + 1))).cell? ⟨w5.heap.size, 1, none⟩ = some (.int .i64 (G + 1)) := World.cell?_setCell_same _ _ _ d1
              have f2 := oth 2 (by decide) d2
              have A6 := Lib.hid (A5.out.below hbs)
              have hle : ¬ G + 1 < g + 1 := by omega
              clear hbs oth A5 BA
              have hmx : max (G + 1) (g + 1) = G + 1 := by omega
              go_upto_region 19 with fail
              clear hmx
              generalize Y.setCell ⟨w5.heap.size, 1, none⟩ (.int .i64 (G + 1)) = Z at *
              have KC := Lib.hid (ah_change A6.out (by omega) HOK.out.nw (G + 1) (by omega) (by omega) (by omega) a c HZ.out)
              clear A6 d0 d1 d2 df
              go_wp2_with fail
              refine KC.out.mono ?_
              rintro x6 w6 ⟨rfl, h6⟩
              have R5 : Hid (AhW w w6 D P L M T Q room MF H (G + 1) (k + 1)) := AhW.of h6 (Int.le_refl _) (Int.le_refl _) (by omega) (by omega) ⟨by omega, by omega⟩ hH0
              clear h6 KC f0 f1 f2
              go_wp2_with fail
              go_meet
              exact ⟨G + 1, H, rfl, rfl, R5⟩
            · have A5 := Lib.hid (h5.below ((Below.refl w5.heap.size w5).alloc (Nat.le_refl _) (.cells #[.int .i64 0, .int .i64 0, .slice none 0 0] 36)))
              have he2 : ¬ e = 0 := he
              clear h5 he K0 HAH c0 c1 c2
              go_upto_region 15 with fail
              generalize w5.alloc (.cells #[.int .i64 0, .int .i64 0, .slice none 0 0] 36) = Y at *
              have R5 : Hid (AhW w Y D P L M T Q room MF H G (k + 1)) := AhW.of A5.out (Int.le_refl _) (Int.le_refl _) (by omega) (by omega) ⟨hG0, by omega⟩ hH0
              clear A5
              go_wp2_with fail
              go_meet
              exact ⟨G, H, rfl, rfl, R5⟩
          have e1 : (xk == 1) = false := by rw [beq_eq_false_iff_ne]; exact e1
          by_cases e4 : xk = 4
          · subst e4
            by_cases hN : xn < 1152921504606846976
            · go_upto_region 23 with fail
              go_still_tail 11, (by kernel_rfl)
              change wpList _ _ _ _ _ wa.drew
              have HAD := Lib.hid (HAH.out.below ((Below.refl wa.heap.size wa).drew))
              by_cases hl0 : xl.length = 0
              · have hl1 : xl = [] := List.length_eq_zero_iff.1 hl0
                subst hl1
                have K0 := Lib.hid (ah_flush0 HAD.out (by omega) (by omega) (by omega) (by omega) xn xa xc)
                clear HAH HAD c0 c1 c2
                go_wp2_with fail
                refine K0.out.mono ?_
                rintro x5 w5 ⟨⟨v1, v2, rfl⟩, h5⟩
                have R5 : Hid (AhW w w5 D P L M T Q room MF (max H xn) G (k + 1)) := AhW.of h5 (Int.le_refl _) (Int.le_refl _) (by omega) (by omega) ⟨hG0, by omega⟩ (by omega)
                clear h5 K0
                go_wp2_with fail
                go_meet
                exact ⟨G, max H xn, rfl, rfl, R5⟩
              · have K0 := Lib.hid (ah_flush HAD.out (by omega) (by omega) (by omega) (by omega) xn xa xl xc (by omega) (by omega) HOK.out.lw (HOK.out.lr.below HAD.out.bw) (row_low HOK.out.lr (show 0 < xl.length by omega)))
                clear HAH HAD c0 c1 c2
                go_wp2_with fail
                refine K0.out.mono ?_
                rintro x5 w5 ⟨⟨v1, v2, rfl⟩, h5⟩
                have R5 : Hid (AhW w w5 D P L M T Q room MF (max H xn) G (k + 1)) := AhW.of h5 (Int.le_refl _) (Int.le_refl _) (by omega) (by omega) ⟨hG0, by omega⟩ (by omega)
                clear h5 K0
                go_wp2_with fail
                go_meet
                exact ⟨G, max H xn, rfl, rfl, R5⟩
            · have R5 : Hid (AhW w wa D P L M T Q room MF H G (k + 1)) := AhW.of HAH.out (Int.le_refl _) (Int.le_refl _) (by omega) (by omega) ⟨hG0, by omega⟩ hH0
              clear HAH
              go_wp2_with fail
              go_meet
              exact ⟨G, H, rfl, rfl, R5⟩
          have e4 : (xk == 4) = false := by rw [beq_eq_false_iff_ne]; exact e4
          by_cases e5 : xk = 5
          · subst e5
            have K0 := Lib.hid (ah_evict HAH.out (by omega) xa xl xc (by omega) HOK.out.lw (HOK.out.lr.below HAH.out.bw))
            go_wp2_with fail
            refine K0.out.mono ?_
            rintro x5 w5 ⟨⟨v, rfl⟩, h5⟩
            have R5 : Hid (AhW w w5 D P L M T Q room MF H G (k + 1)) := AhW.of h5 (Int.le_refl _) (Int.le_refl _) (by omega) (by omega) ⟨hG0, by omega⟩ hH0
            clear h5 K0 HAH c0 c1 c2
            go_wp2_with fail
            go_meet
            exact ⟨G, H, rfl, rfl, R5⟩
          have e5 : (xk == 5) = false := by rw [beq_eq_false_iff_ne]; exact e5
          have R5 : Hid (AhW w wa D P L M T Q room MF H G (k + 1)) := AhW.of HAH.out (Int.le_refl _) (Int.le_refl _) (by omega) (by omega) ⟨hG0, by omega⟩ hH0
          clear HAH
          go_wp2_with fail
          go_meet
          exact ⟨G, H, rfl, rfl, R5⟩
        case rest =>

        rename World => wx
        obtain ⟨G', H', rfl, rfl, R6⟩ := hcut
        clear HAH c0 c1 c2 hG0 hGk hH0
        go_wp2_with fail
        go_loopw [12] (fun jv wr => ∃ j : Nat, j ≤ 4 ∧ jv = .int .i64 j ∧ Hid (AhW w wr D P L M T Q room MF H' G' (k + 1))) (fun jv _ => 4 - (intOf jv).toNat)
        case atStart => exact ⟨0, by omega, rfl, R6⟩
        case round =>
          obtain ⟨j, hj4, rfl, R7⟩ := hrel
          rename World => wy
          clear R6
          by_cases hjl : j < 4
          · have hj0 : (j : Int) < 4 := by omega
            have q0 := R7.out.2.2.q0
            have K0 := Lib.hid (ah_page R7.out.2.2 (by omega) (by omega) j hjl)
            have HR := Lib.hid (show (0 ≤ G' ∧ G' ≤ ((k + 1 : Nat) : Int)) ∧ 0 ≤ H' from ⟨R7.out.1, R7.out.2.1⟩)
            clear R7
            go_wp2_with fail
            refine K0.out.mono ?_
            rintro x8 w8 ⟨⟨g, a, c, rfl, hg0, hgH⟩, h8, _⟩
            have hba := (Below.refl w8.heap.size w8).alloc (Nat.le_refl _) (.cells #[.int .i64 j, .int .i64 g, .slice a 0 c] 36)
            have d1 : (w8.alloc (.cells #[.int .i64 j, .int .i64 g, .slice a 0 c] 36)).cell? ⟨w8.heap.size, 1, none⟩ = some (.int .i64 g) := Dv.new_cell rfl rfl
            have R8 : Hid (AhW w (w8.alloc (.cells #[.int .i64 j, .int .i64 g, .slice a 0 c] 36)) D P L M T Q room MF H' G' (k + 1)) := ⟨HR.out.1, HR.out.2, h8.below hba⟩
            have hle : ¬ H' < g := by omega
            clear h8 hba K0 q0 HR
            go_upto_region 30 with fail
            generalize w8.alloc (.cells #[.int .i64 j, .int .i64 g, .slice a 0 c] 36) = Y at *
            go_wp2
            go_roundw
            case rel => exact ⟨j + 1, by omega, by go_num, R8⟩
            case measure => simp [intOf]; omega
          · have hj0 : (4 : Int) ≤ (j : Int) := by omega
            go_wp2
            go_roundw
            case rel => exact ⟨k + 1, G', H', by omega, by go_num, rfl, rfl, R7⟩
            case measure => simp [intOf]; omega
      · have hk0 : (Ls.length : Int) ≤ (k : Int) := by omega
        have HB := Lib.hid HS.out.2.2.bw
        clear HS
        go_wp2
        go_ret
        exact ⟨rfl, HB.out⟩
end Go.Proofs.YtkemhkmabbladaaGreatDoor
