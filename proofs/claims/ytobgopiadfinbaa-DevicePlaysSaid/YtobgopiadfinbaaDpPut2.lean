/-
  LAW 05's does: a Put.
-/
import Derived.Test.YtobgopiadfinbaaDpWrite
import Derived.Test.YtobgopiadfinbaaDpArm
namespace Go.Proofs.Ytobgopiadfinbaa
open Go.RowKit
theorem pw_more {W : World} {PB c : Nat} {p : Pn} (h : PwR W PB c p) : PwR W PB (c + 1) p := by
  obtain ⟨⟨lm, h1, h2, h3, h4⟩, h5⟩ := h
  exact ⟨⟨lm, h1, h2, by omega, h4⟩, ⟨h5.1, by omega⟩⟩
theorem dq_len {W : World} {D P L M n c : Nat} {p : Pn} {las : List (List UInt8)} {f : Int → Option (List UInt8)} (h : DQ W D P L M n c p las f) : las.length = n := by
  obtain ⟨k, _, h1⟩ := h.ex
  exact h1.ll
theorem side_ngn {D P L M MB PB gl gn : Nat} (hnd : [D, P, L, M, MB, gl, gn, PB].Nodup) : (D ∉ [gn] ∧ P ∉ [gn] ∧ L ∉ [gn] ∧ M ∉ [gn]) ∧ PB ∉ [gn] := by
  have nd := hnd
  simp only [List.nodup_cons, List.mem_cons, List.not_mem_nil, or_false, not_or, List.nodup_nil, and_true] at nd
  obtain ⟨⟨_, _, _, _, _, d6, _⟩, ⟨_, _, _, _, p6, _⟩, ⟨_, _, _, l6, _⟩, ⟨_, _, m6, _⟩, ⟨_, b6, _⟩, _, g8⟩ := nd
  simp only [List.mem_cons, List.not_mem_nil, or_false]
  exact ⟨⟨d6, p6, l6, m6⟩, fun e => g8.1 e.symm⟩
theorem side_ngl {D P L M MB PB gl gn : Nat} (hnd : [D, P, L, M, MB, gl, gn, PB].Nodup) : (D ∉ [gl] ∧ P ∉ [gl] ∧ L ∉ [gl] ∧ M ∉ [gl]) ∧ PB ∉ [gl] := by
  have nd := hnd
  simp only [List.nodup_cons, List.mem_cons, List.not_mem_nil, or_false, not_or, List.nodup_nil, and_true] at nd
  obtain ⟨⟨_, _, _, _, d6, _⟩, ⟨_, _, _, p6, _⟩, ⟨_, _, l6, _⟩, ⟨_, m6, _⟩, ⟨b6, _⟩, ⟨_, g7⟩, _⟩ := nd
  simp only [List.mem_cons, List.not_mem_nil, or_false]
  exact ⟨⟨d6, p6, l6, m6⟩, fun e => g7 e.symm⟩
theorem side_nmb {D P L M MB PB gl gn : Nat} (hnd : [D, P, L, M, MB, gl, gn, PB].Nodup) : (D ∉ [MB] ∧ P ∉ [MB] ∧ L ∉ [MB] ∧ M ∉ [MB]) ∧ PB ∉ [MB] := by
  have nd := hnd
  simp only [List.nodup_cons, List.mem_cons, List.not_mem_nil, or_false, not_or, List.nodup_nil, and_true] at nd
  obtain ⟨⟨_, _, _, d4, _⟩, ⟨_, _, p4, _⟩, ⟨_, l4, _⟩, ⟨m4, _⟩, ⟨_, _, b7⟩, _⟩ := nd
  simp only [List.mem_cons, List.not_mem_nil, or_false]
  exact ⟨⟨d4, p4, l4, m4⟩, fun e => b7 e.symm⟩
theorem las_at {las : List (List UInt8)} {q i : Nat} {l : List UInt8} (hq : q < las.length) : (las.set q l).getD i blank64 = if i = q then l else las.getD i blank64 := by
  rw [List.getD_eq_getElem?_getD, List.getD_eq_getElem?_getD, List.getElem?_set]
  by_cases e : q = i
  · subst e; rw [if_pos rfl, if_pos hq, if_pos rfl]; rfl
  · rw [if_neg e, if_neg (fun x => e x.symm)]
theorem CR.put {n : Nat} {las : List (List UInt8)} {f : Int → Option (List UInt8)} {lt nt : Nat → ByteArray} {ls : List Int} (h : CR n las f lt nt ls) (_hf : LooseOk n f) (hlen : las.length = n) {q : Nat} (hq : q < n) (l : List UInt8) :
    CR n (las.set q l) (upd f (q : Int) none) (put1 lt q (txt l)) (put1 nt q (txt l)) (withL ls (q : Int) false) := by
  rw [withL_del]
  refine ⟨fun i hi => ?_, fun i hi => ?_, h.up.filter _, fun z => ?_, Nat.le_trans (List.length_filter_le _ _) h.len⟩
  · unfold put1
    rw [las_at (by omega)]
    by_cases e : i = q
    · rw [if_pos e, if_pos e]
    · rw [if_neg e, if_neg e]; exact h.hl i hi
  · unfold put1
    by_cases e : i = q
    · subst e
      rw [if_pos rfl]
      unfold secAt upd
      rw [if_pos rfl]
      simp only
      rw [las_at (by omega), if_pos rfl]
    · rw [if_neg e, h.hn i hi]
      unfold secAt upd
      rw [if_neg (by omega), las_at (by omega), if_neg e]
  · unfold delS upd
    rw [List.mem_filter]
    by_cases e : z = (q : Int)
    · rw [if_pos e]; simp [e]
    · rw [if_neg e, h.mem]; simp [e]
section
variable {W : World} {D P L M n c MB PB gl gn : Nat} {p : Pn} {sb : Option Nat}
set_option maxRecDepth 100000 in
set_option maxHeartbeats 4000000 in
theorem does_put (h : Side W D P L M n c MB PB p gl gn sb) (_hc : c ≤ 900) (x : Da) (hx : ArgOk W x [D, P, L, M, MB, gl, gn, PB]) (hk : ¬ x.k = 0 ∧ ¬ x.k = 1 ∧ ¬ x.k = 2 ∧ ¬ x.k = 3 ∧ ¬ x.k = 4) :
    Calls Try.prog 8 #[.pointer (some ⟨D, 0, none⟩), .pointer (some ⟨MB, 0, none⟩), .pointer (some ⟨PB, 0, none⟩), .agg x.cells] W (DoP W D P L M n c MB PB gl gn sb) := by
  obtain ⟨⟨las, f, cl, cn, sa, sc, lt, nt, ls, hQ, hM, hR, hsa⟩, hW, hnd, hsn⟩ := h
  obtain ⟨xk, xn, xo, da, dl, dc, ka, kl, kc⟩ := x
  simp only at hk
  obtain ⟨k0, k1, k2, k3, k4⟩ := hk
  simp only [Da.cells]
  have hb0 := (Below.refl W.heap.size W).alloc (Nat.le_refl _) (.cells #[.int .i64 xk, .int .i64 xn, .bool xo, .slice da dl.length dc, .slice ka kl.length kc] 38)
  have a1 : (W.alloc (.cells #[.int .i64 xk, .int .i64 xn, .bool xo, .slice da dl.length dc, .slice ka kl.length kc] 38)).cell? ⟨W.heap.size, 1, none⟩ = some (.int .i64 xn) := new_cell rfl rfl
  have a0 : (W.alloc (.cells #[.int .i64 xk, .int .i64 xn, .bool xo, .slice da dl.length dc, .slice ka kl.length kc] 38)).cell? ⟨W.heap.size, 0, none⟩ = some (.int .i64 xk) := new_cell rfl rfl
  have a3 : (W.alloc (.cells #[.int .i64 xk, .int .i64 xn, .bool xo, .slice da dl.length dc, .slice ka kl.length kc] 38)).cell? ⟨W.heap.size, 3, none⟩ = some (.slice da dl.length dc) := new_cell rfl rfl
  have KJ := Lib.hid (join_any da dl dc _ (by have := hx.dn; simp only at this; omega) (hx.ds.below hb0) hx.dz)
  have Q0 := Lib.hid (hQ.below hb0)
  have M0 := Lib.hid (hM.below hb0)
  have P0 := Lib.hid (hW.ch (S := []) (Ch.of_below hb0) (by simp))
  have B0 := Lib.hid hb0
  have HX := Lib.hid hx
  have HR := Lib.hid hR
  have HND := Lib.hid hnd
  have HSN := Lib.hid hsn
  have HSA := Lib.hid hsa
  have HLT : Hid (∀ k ∈ [D, P, L, M, MB, gl, gn, PB], k < W.heap.size) := by
    obtain ⟨k, _, hd⟩ := hQ.ex
    have h1 : D < W.heap.size := block_lt (p := ⟨D, 0, none⟩) hd.d0
    have h2 : P < W.heap.size := block_lt (p := ⟨P, 0, none⟩) hd.p0
    have h3 := blk_lt hd.lb
    have h4 : M < W.heap.size := by
      obtain ⟨D0, ⟨es, clock, hbM, F, hs, hD⟩, h5⟩ := hd.mp
      exact blk_lt hbM
    have h5 := hM.lts
    obtain ⟨lm, hp, _⟩ := hW.ex
    have h6 := hp.lt
    show ∀ k ∈ _, k < _
    intro k hk
    simp only [List.mem_cons, List.not_mem_nil, or_false] at hk
    rcases hk with rfl | rfl | rfl | rfl | rfl | rfl | rfl | rfl <;> omega
  have BXB : Hid (W.heap.size ∉ [D, P, L, M, MB, gl, gn, PB]) := fun c => Nat.lt_irrefl _ (HLT.out _ c)
  clear hb0 hx hQ hM hW hR hnd hsn hsa
  go_enter Try.func8, Try.ntmps8
  go_upto_region 1 with fail
  generalize W.alloc (.cells #[.int .i64 xk, .int .i64 xn, .bool xo, .slice da dl.length dc, .slice ka kl.length kc] 38) = Y at *
  go_wp2_with fail
  refine KJ.out.mono ?_
  rintro x w1 ⟨rfl, rfl⟩
  have m1 := M0.out.c1
  clear KJ
  by_cases h0 : 0 ≤ xn
  · by_cases h1 : xn < (n : Int)
    · have hin : hasB n xn = true := by unfold hasB; simp only [Bool.and_eq_true, decide_eq_true_eq]; exact ⟨h0, h1⟩
      go_upto_region 2 with fail
      go_quiet (fail)
      have hbd : Below Y.heap.size Y (Y.drewN nq) := below_drewN (Below.refl _ _) nq
      have Q1 := Lib.hid (Q0.out.below hbd)
      have M1 := Lib.hid (M0.out.below hbd)
      have P1 := Lib.hid (P0.out.ch (S := []) (Ch.of_below hbd) (by simp))
      have B1 := Lib.hid (B0.out.trans (hbd.mono B0.out.size))
      replace a0 := keep_cell hbd a0
      replace a1 := keep_cell hbd a1
      replace a3 := keep_cell hbd a3
      clear hbd Q0 M0 P0 B0 m1
      generalize Y.drewN nq = Z at *
      have F1 : Hid (Ch W Z [P, L, M, MB, gl, gn, PB]) := Ch.of_below B1.out
      have htx : (txt (joined dl)).size = (joined dl).length := txt_size _
      by_cases hl : (joined dl).length ≤ 64
      · skip
        have hwk : wrOk n xn (joined dl) = true := by unfold wrOk; rw [hin]; simp [hl]
        obtain ⟨q, rfl⟩ : ∃ q : Nat, xn = (q : Int) := ⟨xn.toNat, by omega⟩
        have hq : q < n := by omega
        have hlg : ¬ (64 : Int) < ((txt (joined dl)).size : Int) := by omega
        have KF := Lib.hid (fun X => fill_any (txt (joined dl)) (by omega) X)
        have hpad : (txt (joined dl)).data.toList = joined dl := by unfold txt; simp
        rw [hpad] at KF
        have m1 := M1.out.c1
        have mq := M1.out.rn q hq
        have mf := M1.out.fn
        have hcn := M1.out.cp.2
        have hcl := M1.out.cp.1
        have hw2 := Lib.hid (Below.refl Z.heap.size Z).drew
        clear htx
        go_upto_region 7 with fail
        go_region_law ((first
          | (go_simp; go_at_call 19; (with_reducible refine (KF.out _).mono ?_); rintro x w4 ⟨rfl, hb4⟩; have hb5 := hw2.out.trans (hb4.mono hw2.out.size); have M4 := Lib.hid (M1.out.below hb5); have B4 := Lib.hid hb5; replace a0 := keep_cell hb5 a0; replace a1 := keep_cell hb5 a1; replace a3 := keep_cell hb5 a3; have n1 := M4.out.c1; have nq2 := M4.out.rn q hq; have nf := M4.out.fn; clear hb4 hb5; go_simp)))
        all_goals
          have nG := side_ngn HND.out
          have nL := side_ngl HND.out
          have nB := side_nmb HND.out
          have nBG : W.heap.size ≠ gn := fun e => BXB.out (by simp [e])
          have nBL : W.heap.size ≠ gl := fun e => BXB.out (by simp [e])
          have nBM : W.heap.size ≠ MB := fun e => BXB.out (by simp [e])
          have C5 : Ch Z (w4.setCell ⟨gn, q, none⟩ (.string (txt (pad (joined dl))))) [gn] := (Ch.of_below B4.out).set (.inl (by simp))
          have M5 := Lib.hid (M4.out.setNow hq (txt (pad (joined dl))))
          have Q5 := Lib.hid (Q1.out.ch C5 nG.1)
          have P5 := Lib.hid (P1.out.ch C5 nG.2)
          have F5 : Hid (Ch W (w4.setCell ⟨gn, q, none⟩ (.string (txt (pad (joined dl))))) [P, L, M, MB, gl, gn, PB]) := F1.out.trans (C5.sub (fun k hk => .inl (by simp only [List.mem_cons, List.not_mem_nil, or_false] at hk ⊢; simp [hk])))
          replace a0 := cell_set (g := gn) (i := q) (v := .string (txt (pad (joined dl)))) a0 nBG
          replace a1 := cell_set (g := gn) (i := q) (v := .string (txt (pad (joined dl)))) a1 nBG
          replace a3 := cell_set (g := gn) (i := q) (v := .string (txt (pad (joined dl)))) a3 nBG
          clear C5 M4 B4 n1 nq2 nf m1 mq mf Q1 M1 P1 F1 hw2 B1
          go_upto_region 8 with fail
          generalize w4.setCell ⟨gn, q, none⟩ (.string (txt (pad (joined dl)))) = V at *
          have m0 := M5.out.c0
          have mq := M5.out.rl q hq
          have mf := M5.out.fl
          have hw2 := Lib.hid (Below.refl V.heap.size V).drew
          go_region_law ((first
            | (go_simp; go_at_call 19; (with_reducible refine (KF.out _).mono ?_); rintro x w5 ⟨rfl, hb4⟩; have hb5 := hw2.out.trans (hb4.mono hw2.out.size); have M4 := Lib.hid (M5.out.below hb5); have B4 := Lib.hid hb5; replace a0 := keep_cell hb5 a0; replace a1 := keep_cell hb5 a1; replace a3 := keep_cell hb5 a3; have n1 := M4.out.c0; have nq2 := M4.out.rl q hq; have nf := M4.out.fl; clear hb4 hb5; go_simp)))
          all_goals
            have C6 : Ch V (w5.setCell ⟨gl, q, none⟩ (.string (txt (pad (joined dl))))) [gl] := (Ch.of_below B4.out).set (.inl (by simp))
            have M6 := Lib.hid (M4.out.setLast hq (txt (pad (joined dl))))
            have Q6 := Lib.hid (Q5.out.ch C6 nL.1)
            have P6 := Lib.hid (P5.out.ch C6 nL.2)
            have F6 : Hid (Ch W (w5.setCell ⟨gl, q, none⟩ (.string (txt (pad (joined dl))))) [P, L, M, MB, gl, gn, PB]) := F5.out.trans (C6.sub (fun k hk => .inl (by simp only [List.mem_cons, List.not_mem_nil, or_false] at hk ⊢; simp [hk])))
            replace a0 := cell_set (g := gl) (i := q) (v := .string (txt (pad (joined dl)))) a0 nBL
            replace a1 := cell_set (g := gl) (i := q) (v := .string (txt (pad (joined dl)))) a1 nBL
            replace a3 := cell_set (g := gl) (i := q) (v := .string (txt (pad (joined dl)))) a3 nBL
            clear C6 M4 B4 n1 nq2 nf m0 mq mf Q5 M5 P5 F5 hw2 KF hpad hlg
            go_upto_region 9 with fail
            generalize w5.setCell ⟨gl, q, none⟩ (.string (txt (pad (joined dl)))) = V2 at *
            have m2 := M6.out.c2
            have mz := M6.out.fz
            have KWi := Lib.hid (refWith_any (q : Int) false sa ls sc V2.drew (by have := HR.out.len; have := Q6.out.n1.2; omega) M6.out.rs)
            have hw5 := Lib.hid (Below.refl V2.heap.size V2).drew
            go_region_law ((first
              | (go_simp; go_at_call 20; (with_reducible refine KWi.out.mono ?_); rintro x w6 ⟨v, rfl, hrow, hb6⟩; obtain ⟨sa', sc', rfl, hia, hib⟩ := row_form hrow; have hb7 := hw5.out.trans (hb6.mono hw5.out.size); have M8 := Lib.hid (M6.out.below hb7); have B6 := Lib.hid hb7; have HIA := Lib.hid hia; have HIB := Lib.hid hib; replace a0 := keep_cell hb7 a0; replace a1 := keep_cell hb7 a1; replace a3 := keep_cell hb7 a3; have n2 := M8.out.c2; have nz := M8.out.fz; clear hb6 hb7 hrow hia hib; go_simp)))
            all_goals
              have hVS : W.heap.size ≤ V2.heap.size := F6.out.size
              have hML := M6.out.lts
              have C7 : Ch V2 (w6.setCell ⟨MB, 2, none⟩ (.slice sa' (withL ls (q : Int) false).length sc')) [MB] := (Ch.of_below B6.out).set (.inl (by simp))
              have M7 := Lib.hid (M8.out.setLoose (sc' := sc') HIA.out (fun b off e => by
                have : V2.heap.size ≤ b := (HIB.out b off e).1
                exact ⟨by omega, by omega, by omega, (HIB.out b off e).2⟩))
              have Q7 := Lib.hid (Q6.out.ch C7 nB.1)
              have P7 := Lib.hid (P6.out.ch C7 nB.2)
              have F7 : Hid (Ch W (w6.setCell ⟨MB, 2, none⟩ (.slice sa' (withL ls (q : Int) false).length sc')) [P, L, M, MB, gl, gn, PB]) := F6.out.trans (C7.sub (fun k hk => .inl (by simp only [List.mem_cons, List.not_mem_nil, or_false] at hk ⊢; simp [hk])))
              have HIS : Hid (∀ b off, sa' = some ⟨b, off, none⟩ → W.heap.size ≤ b) := fun b off e => Nat.le_trans hVS (HIB.out b off e).1
              replace a0 := cell_set (g := MB) (i := 2) (v := .slice sa' (withL ls (q : Int) false).length sc') a0 nBM
              replace a1 := cell_set (g := MB) (i := 2) (v := .slice sa' (withL ls (q : Int) false).length sc') a1 nBM
              have HWK := Lib.hid hwk
              clear C7 M8 B6 n2 nz m2 mz M6 Q6 P6 F6 hw5 KWi HIA HIB hVS hML hwk a3
              go_upto_region 10 with fail
              generalize w6.setCell ⟨MB, 2, none⟩ (.slice sa' (withL ls (q : Int) false).length sc') = U at *
              have KW := put_q Q7.out (q : Int) (txt (joined dl)) (by have := HX.out.jn; simp only at this; rw [txt_size]; omega)
              rw [show (txt (joined dl)).data.toList = joined dl by unfold txt; simp] at KW
              have hE : ptE n (q : Int) (joined dl) = 0 := by unfold ptE; rw [HWK.out]; rfl
              have hL : ptL n las (q : Int) (joined dl) = las.set q (pad (joined dl)) := by unfold ptL; rw [HWK.out]; rfl
              have hF : ptF n f (q : Int) (joined dl) = upd f (q : Int) none := by unfold ptF; rw [HWK.out]; rfl
              rw [hE, hL, hF] at KW
              have KW := Lib.hid KW
              clear hE hL hF
              go_wp2_with fail
              refine KW.out.mono ?_
              rintro x w3 ⟨rfl, hq3, hf3⟩
              have HD := Lib.hid (side_done (hq3.more (Nat.le_succ c)) M7.out (HR.out.put Q7.out.ok (dq_len Q7.out) hq (pad (joined dl))) (pw_more P7.out) hf3 F7.out HND.out HLT.out HSN.out (fun b off e => .inr (HIS.out b off e)))
              clear hq3 hf3 KW
              go_wp2
              go_ret
              exact ⟨rfl, HD.out⟩
      · have hwk : wrOk n xn (joined dl) = false := by unfold wrOk; rw [hin]; simp [hl]
        have hlg : (64 : Int) < ((txt (joined dl)).size : Int) := by omega
        clear htx
        have KW := put_q Q1.out xn (txt (joined dl)) (by have := HX.out.jn; simp only at this; rw [txt_size]; omega)
        rw [show (txt (joined dl)).data.toList = joined dl by unfold txt; simp] at KW
        have hE : ptE n xn (joined dl) = 1 := by unfold ptE; rw [hwk]; rfl
        have hL : ptL n las xn (joined dl) = las := by unfold ptL; rw [hwk]; rfl
        have hF : ptF n f xn (joined dl) = f := by unfold ptF; rw [hwk]; rfl
        rw [hE, hL, hF] at KW
        have KW := Lib.hid KW
        clear hE hL hF
        go_wp2_with fail
        refine KW.out.mono ?_
        rintro x w3 ⟨rfl, hq3, hf3⟩
        have HD := Lib.hid (side_done (hq3.more (Nat.le_succ c)) M1.out (HR.out) (pw_more P1.out) hf3 F1.out HND.out HLT.out HSN.out (fun b off e => .inl (HSA.out b off e)))
        clear hq3 hf3 KW
        go_wp2
        go_ret
        exact ⟨rfl, HD.out⟩
    · have hin : hasB n xn = false := by unfold hasB; simp only [Bool.and_eq_false_iff, decide_eq_false_iff_not]; exact .inr h1
      have h1d : decide (xn < (n : Int)) = false := by rw [decide_eq_false_iff_not]; exact h1
      go_upto_region 2 with fail
      go_quiet (fail)
      have hbd : Below Y.heap.size Y (Y.drewN nq) := below_drewN (Below.refl _ _) nq
      have Q1 := Lib.hid (Q0.out.below hbd)
      have M1 := Lib.hid (M0.out.below hbd)
      have P1 := Lib.hid (P0.out.ch (S := []) (Ch.of_below hbd) (by simp))
      have B1 := Lib.hid (B0.out.trans (hbd.mono B0.out.size))
      replace a0 := keep_cell hbd a0
      replace a1 := keep_cell hbd a1
      replace a3 := keep_cell hbd a3
      clear hbd Q0 M0 P0 B0 m1
      generalize Y.drewN nq = Z at *
      have F1 : Hid (Ch W Z [P, L, M, MB, gl, gn, PB]) := Ch.of_below B1.out
      have hwk : wrOk n xn (joined dl) = false := by unfold wrOk; rw [hin]; rfl
      have KW := put_q Q1.out xn (txt (joined dl)) (by have := HX.out.jn; simp only at this; rw [txt_size]; omega)
      rw [show (txt (joined dl)).data.toList = joined dl by unfold txt; simp] at KW
      have hE : ptE n xn (joined dl) = 1 := by unfold ptE; rw [hwk]; rfl
      have hL : ptL n las xn (joined dl) = las := by unfold ptL; rw [hwk]; rfl
      have hF : ptF n f xn (joined dl) = f := by unfold ptF; rw [hwk]; rfl
      rw [hE, hL, hF] at KW
      have KW := Lib.hid KW
      clear hE hL hF
      go_wp2_with fail
      refine KW.out.mono ?_
      rintro x w3 ⟨rfl, hq3, hf3⟩
      have HD := Lib.hid (side_done (hq3.more (Nat.le_succ c)) M1.out (HR.out) (pw_more P1.out) hf3 F1.out HND.out HLT.out HSN.out (fun b off e => .inl (HSA.out b off e)))
      clear hq3 hf3 KW
      go_wp2
      go_ret
      exact ⟨rfl, HD.out⟩
  · have h0d : decide (0 ≤ xn) = false := by rw [decide_eq_false_iff_not]; exact h0
    have h0n : xn < 0 := by omega
    have hin : hasB n xn = false := by unfold hasB; simp only [Bool.and_eq_false_iff, decide_eq_false_iff_not]; exact .inl h0
    go_upto_region 2 with fail
    go_quiet (fail)
    have hbd : Below Y.heap.size Y (Y.drewN nq) := below_drewN (Below.refl _ _) nq
    have Q1 := Lib.hid (Q0.out.below hbd)
    have M1 := Lib.hid (M0.out.below hbd)
    have P1 := Lib.hid (P0.out.ch (S := []) (Ch.of_below hbd) (by simp))
    have B1 := Lib.hid (B0.out.trans (hbd.mono B0.out.size))
    replace a0 := keep_cell hbd a0
    replace a1 := keep_cell hbd a1
    replace a3 := keep_cell hbd a3
    clear hbd Q0 M0 P0 B0 m1
    generalize Y.drewN nq = Z at *
    have F1 : Hid (Ch W Z [P, L, M, MB, gl, gn, PB]) := Ch.of_below B1.out
    have hwk : wrOk n xn (joined dl) = false := by unfold wrOk; rw [hin]; rfl
    have KW := put_q Q1.out xn (txt (joined dl)) (by have := HX.out.jn; simp only at this; rw [txt_size]; omega)
    rw [show (txt (joined dl)).data.toList = joined dl by unfold txt; simp] at KW
    have hE : ptE n xn (joined dl) = 1 := by unfold ptE; rw [hwk]; rfl
    have hL : ptL n las xn (joined dl) = las := by unfold ptL; rw [hwk]; rfl
    have hF : ptF n f xn (joined dl) = f := by unfold ptF; rw [hwk]; rfl
    rw [hE, hL, hF] at KW
    have KW := Lib.hid KW
    clear hE hL hF
    go_wp2_with fail
    refine KW.out.mono ?_
    rintro x w3 ⟨rfl, hq3, hf3⟩
    have HD := Lib.hid (side_done (hq3.more (Nat.le_succ c)) M1.out (HR.out) (pw_more P1.out) hf3 F1.out HND.out HLT.out HSN.out (fun b off e => .inl (HSA.out b off e)))
    clear hq3 hf3 KW
    go_wp2
    go_ret
    exact ⟨rfl, HD.out⟩
end
end Go.Proofs.Ytobgopiadfinbaa
