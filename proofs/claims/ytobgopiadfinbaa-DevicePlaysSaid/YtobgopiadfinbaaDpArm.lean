/-
  LAW 05's does: an Arm.
-/
import Derived.Test.YtobgopiadfinbaaDpWrite
import Derived.Test.YtobgopiadfinbaaDpRead2
namespace Go.Proofs.Ytobgopiadfinbaa
open Go.RowKit
theorem side_ch {W X : World} {D P L M n MB PB gl gn cl cn : Nat} {sb : Option Nat} {sa : Option Addr} {sc : Nat} {lt nt : Nat → ByteArray} {ls : List Int} (hM : MdAt W MB gl gn cl cn sa sc n lt nt ls) (hnd : [D, P, L, M, MB, gl, gn, PB].Nodup) (hsn : ∀ b, sb = some b → b ∉ [D, P, L, M, MB, gl, gn, PB]) (hsa : ∀ b off, sa = some ⟨b, off, none⟩ → sb = some b) (hc : Ch W X [P, L, M]) : MdAt X MB gl gn cl cn sa sc n lt nt ls := by
  have nd := hnd
  simp only [List.nodup_cons, List.mem_cons, List.not_mem_nil, or_false, not_or, List.nodup_nil, and_true] at nd
  obtain ⟨_, ⟨n1, n2, n3, n4, n5, n6⟩, ⟨n7, n8, n9, n10, n11⟩, ⟨n12, n13, n14, n15⟩, _⟩ := nd
  refine hM.ch hc ⟨?_, ?_, ?_⟩ ?_
  · simp only [List.mem_cons, List.not_mem_nil, or_false, not_or]; exact ⟨fun e => n3 e.symm, fun e => n8 e.symm, fun e => n12 e.symm⟩
  · simp only [List.mem_cons, List.not_mem_nil, or_false, not_or]; exact ⟨fun e => n4 e.symm, fun e => n9 e.symm, fun e => n13 e.symm⟩
  · simp only [List.mem_cons, List.not_mem_nil, or_false, not_or]; exact ⟨fun e => n5 e.symm, fun e => n10 e.symm, fun e => n14 e.symm⟩
  · intro b off e
    have := hsn b (hsa b off e)
    simp only [List.mem_cons, List.not_mem_nil, or_false, not_or] at this ⊢
    exact ⟨this.2.1, this.2.2.1, this.2.2.2.1⟩
theorem side_pw {W X : World} {D P L M MB PB gl gn c : Nat} {p : Pn} (hP : PwR W PB c p) (hnd : [D, P, L, M, MB, gl, gn, PB].Nodup) (hc : Ch W X [P, L, M]) : PwR X PB c p := by
  have nd := hnd
  simp only [List.nodup_cons, List.mem_cons, List.not_mem_nil, or_false, not_or, List.nodup_nil, and_true] at nd
  obtain ⟨_, ⟨n1, n2, n3, n4, n5, n6⟩, ⟨n7, n8, n9, n10, n11⟩, ⟨n12, n13, n14, n15⟩, _⟩ := nd
  refine hP.ch hc ?_
  simp only [List.mem_cons, List.not_mem_nil, or_false, not_or]
  exact ⟨fun e => n6 e.symm, fun e => n11 e.symm, fun e => n15 e.symm⟩
theorem side_npb {D P L M MB PB gl gn : Nat} (hnd : [D, P, L, M, MB, gl, gn, PB].Nodup) : (D ∉ [PB] ∧ P ∉ [PB] ∧ L ∉ [PB] ∧ M ∉ [PB]) ∧ (MB ∉ [PB] ∧ gl ∉ [PB] ∧ gn ∉ [PB]) := by
  have nd := hnd
  simp only [List.nodup_cons, List.mem_cons, List.not_mem_nil, or_false, not_or, List.nodup_nil, and_true] at nd
  obtain ⟨⟨_, _, _, _, _, _, d7⟩, ⟨_, _, _, _, _, p7⟩, ⟨_, _, _, _, l7⟩, ⟨_, _, _, m7⟩, ⟨_, _, b7⟩, ⟨_, g7⟩, g8⟩ := nd
  simp only [List.mem_cons, List.not_mem_nil, or_false]
  exact ⟨⟨d7, p7, l7, m7⟩, b7, g7, g8.1⟩
section
variable {W : World} {D P L M n c MB PB gl gn : Nat} {p : Pn} {sb : Option Nat}
set_option maxRecDepth 100000 in
set_option maxHeartbeats 4000000 in
theorem does_arm (h : Side W D P L M n c MB PB p gl gn sb) (hc : c ≤ 900) (x : Da) (hx : ArgOk W x [D, P, L, M, MB, gl, gn, PB]) (hk : x.k = 3) :
    Calls Try.prog 8 #[.pointer (some ⟨D, 0, none⟩), .pointer (some ⟨MB, 0, none⟩), .pointer (some ⟨PB, 0, none⟩), .agg x.cells] W (DoP W D P L M n c MB PB gl gn sb) := by
  obtain ⟨⟨las, f, cl, cn, sa, sc, lt, nt, ls, hQ, hM, hR, hsa⟩, hW, hnd, hsn⟩ := h
  obtain ⟨xk, xn, xo, da, dl, dc, ka, kl, kc⟩ := x
  simp only at hk
  subst hk
  simp only [Da.cells]
  have hb0 := (Below.refl W.heap.size W).alloc (Nat.le_refl _) (.cells #[.int .i64 3, .int .i64 xn, .bool xo, .slice da dl.length dc, .slice ka kl.length kc] 38)
  have a1 : (W.alloc (.cells #[.int .i64 3, .int .i64 xn, .bool xo, .slice da dl.length dc, .slice ka kl.length kc] 38)).cell? ⟨W.heap.size, 1, none⟩ = some (.int .i64 xn) := new_cell rfl rfl
  have a0 : (W.alloc (.cells #[.int .i64 3, .int .i64 xn, .bool xo, .slice da dl.length dc, .slice ka kl.length kc] 38)).cell? ⟨W.heap.size, 0, none⟩ = some (.int .i64 3) := new_cell rfl rfl
  have a3 : (W.alloc (.cells #[.int .i64 3, .int .i64 xn, .bool xo, .slice da dl.length dc, .slice ka kl.length kc] 38)).cell? ⟨W.heap.size, 3, none⟩ = some (.slice da dl.length dc) := new_cell rfl rfl
  have KJ := Lib.hid (join_any da dl dc _ (by have := hx.dn; simp only at this; omega) (hx.ds.below hb0) hx.dz)
  have Q0 := Lib.hid (hQ.below hb0)
  have M0 := Lib.hid (hM.below hb0)
  have P0 := Lib.hid (hW.ch (S := []) (Ch.of_below hb0) (by simp))
  have B0 := Lib.hid hb0
  have HX := Lib.hid hx
  have HR := Lib.hid hR
  have HND := Lib.hid hnd
  have HSN := Lib.hid hsn
  have HSA := Lib.hid hsa
  have HLT : Hid (∀ k ∈ [D, P, L, M, MB, gl, gn, PB], k < W.heap.size) := by
    obtain ⟨k, _, hd⟩ := hQ.ex
    have h1 : D < W.heap.size := block_lt (p := ⟨D, 0, none⟩) hd.d0
    have h2 : P < W.heap.size := block_lt (p := ⟨P, 0, none⟩) hd.p0
    have h3 := blk_lt hd.lb
    have h4 : M < W.heap.size := by
      obtain ⟨D0, ⟨es, clock, hbM, F, hs, hD⟩, h5⟩ := hd.mp
      exact blk_lt hbM
    have h5 := hM.lts
    obtain ⟨lm, hp, _⟩ := hW.ex
    have h6 := hp.lt
    show ∀ k ∈ _, k < _
    intro k hk
    simp only [List.mem_cons, List.not_mem_nil, or_false] at hk
    rcases hk with rfl | rfl | rfl | rfl | rfl | rfl | rfl | rfl <;> omega
  have BXB : Hid (W.heap.size ∉ [D, P, L, M, MB, gl, gn, PB]) := fun c => Nat.lt_irrefl _ (HLT.out _ c)
  clear hb0 hx hQ hM hW hR hnd hsn hsa
  go_enter Try.func8, Try.ntmps8
  go_upto_region 1 with fail
  generalize W.alloc (.cells #[.int .i64 3, .int .i64 xn, .bool xo, .slice da dl.length dc, .slice ka kl.length kc] 38) = Y at *
  go_wp2_with fail
  refine KJ.out.mono ?_
  rintro x w1 ⟨rfl, rfl⟩
  have m1 := M0.out.c1
  clear KJ
  by_cases h0 : 0 ≤ xn
  · by_cases h1 : xn < (n : Int)
    · have hin : hasB n xn = true := by unfold hasB; simp only [Bool.and_eq_true, decide_eq_true_eq]; exact ⟨h0, h1⟩
      go_upto_region 2 with fail
      go_quiet (fail)
      have hbd : Below Y.heap.size Y (Y.drewN nq) := below_drewN (Below.refl _ _) nq
      have Q1 := Lib.hid (Q0.out.below hbd)
      have M1 := Lib.hid (M0.out.below hbd)
      have P1 := Lib.hid (P0.out.ch (S := []) (Ch.of_below hbd) (by simp))
      have B1 := Lib.hid (B0.out.trans (hbd.mono B0.out.size))
      replace a0 := keep_cell hbd a0
      replace a1 := keep_cell hbd a1
      replace a3 := keep_cell hbd a3
      clear hbd Q0 M0 P0 B0 m1
      generalize Y.drewN nq = Z at *
      have F1 : Hid (Ch W Z [P, L, M, MB, gl, gn, PB]) := Ch.of_below B1.out
      have KA := Lib.hid (arm_q Q1.out xn HX.out.n)
      go_wp2_with fail
      refine KA.out.mono ?_
      rintro x w2 ⟨rfl, hq2, hf2⟩
      have hcf : Ch Z w2 [P, L, M] := Ch.of_fr3 hf2 (by simp)
      have hM2 := side_ch M1.out HND.out HSN.out HSA.out hcf
      have hP2 := side_pw P1.out HND.out hcf
      obtain ⟨⟨lm, hpw, hlm⟩, hu5⟩ := hP2
      obtain ⟨mx, hmx⟩ : ∃ mx, mx = max xn 0 := ⟨_, rfl⟩
      obtain rfl : xn = mx := by omega
      have A1 := hpw.setAr true
      have A2 := A1.setLm xn
      have hxn := HX.out.n
      simp only at hxn
      have F2 := (F1.out.trans (hcf.sub (fun k hk => .inl (by simp only [List.mem_cons, List.not_mem_nil, or_false] at hk ⊢; rcases hk with q | q | q <;> simp [q]))))
      have hC := ((Ch.refl w2 [PB]).set (g := PB) (i := 1) (v := .bool true) (.inl (by simp))).set (g := PB) (i := 2) (v := .int .i64 xn) (.inl (by simp))
      have HDONE : Hid (SideP W D P L M n c MB PB gl gn sb ((w2.setCell ⟨PB, 1, none⟩ (.bool true)).setCell ⟨PB, 2, none⟩ (.int .i64 xn))) := by
        have hQ3 := hq2.ch hC (side_npb HND.out).1
        have hM3 := hM2.ch hC (side_npb HND.out).2 (fun b off e => by
          have := HSN.out b (HSA.out b off e)
          simp only [List.mem_cons, List.not_mem_nil, or_false, not_or] at this ⊢
          exact this.2.2.2.2.2.2.2)
        refine side_done2 hQ3 hM3 HR.out ⟨⟨_, A2, fun _ _ => hmx, by omega, ?_⟩, hu5⟩ (F2.trans (hC.sub (fun k hk => .inl (by simp only [List.mem_cons, List.not_mem_nil, or_false] at hk ⊢; simp [hk])))) HND.out HLT.out HSN.out HSA.out
        simp [Lit.wf, IntKind.min, IntKind.max, IntKind.signed, IntKind.bits] at hxn
        omega
      have c1 := hpw.c1
      have d2 := A1.c2
      have cf := hpw.fz
      have nBP : W.heap.size ∉ [P, L, M] := fun c => BXB.out (by simp only [List.mem_cons, List.not_mem_nil, or_false] at c ⊢; rcases c with q | q | q <;> simp [q])
      have nBB : W.heap.size ≠ PB := fun e => BXB.out (by simp [e])
      replace a0 := hcf.cell a0 nBP
      replace a1 := hcf.cell a1 nBP
      have b1 := cell_set (g := PB) (i := 1) (v := .bool true) a1 nBB
      have b2 := cell_set (g := PB) (i := 2) (v := .int .i64 xn) b1 nBB
      clear hcf hM2 hpw hlm A1 A2 hC F2 hmx hq2 hf2 KA hxn
      go_wp2
      go_ret
      exact ⟨rfl, HDONE.out⟩
    · have hin : hasB n xn = false := by unfold hasB; simp only [Bool.and_eq_false_iff, decide_eq_false_iff_not]; exact .inr h1
      have h1d : decide (xn < (n : Int)) = false := by rw [decide_eq_false_iff_not]; exact h1
      go_upto_region 2 with fail
      go_quiet (fail)
      have hbd : Below Y.heap.size Y (Y.drewN nq) := below_drewN (Below.refl _ _) nq
      have Q1 := Lib.hid (Q0.out.below hbd)
      have M1 := Lib.hid (M0.out.below hbd)
      have P1 := Lib.hid (P0.out.ch (S := []) (Ch.of_below hbd) (by simp))
      have B1 := Lib.hid (B0.out.trans (hbd.mono B0.out.size))
      replace a0 := keep_cell hbd a0
      replace a1 := keep_cell hbd a1
      replace a3 := keep_cell hbd a3
      clear hbd Q0 M0 P0 B0 m1
      generalize Y.drewN nq = Z at *
      have F1 : Hid (Ch W Z [P, L, M, MB, gl, gn, PB]) := Ch.of_below B1.out
      have KA := Lib.hid (arm_q Q1.out xn HX.out.n)
      go_wp2_with fail
      refine KA.out.mono ?_
      rintro x w2 ⟨rfl, hq2, hf2⟩
      have hcf : Ch Z w2 [P, L, M] := Ch.of_fr3 hf2 (by simp)
      have hM2 := side_ch M1.out HND.out HSN.out HSA.out hcf
      have hP2 := side_pw P1.out HND.out hcf
      obtain ⟨⟨lm, hpw, hlm⟩, hu5⟩ := hP2
      obtain ⟨mx, hmx⟩ : ∃ mx, mx = max xn 0 := ⟨_, rfl⟩
      obtain rfl : xn = mx := by omega
      have A1 := hpw.setAr true
      have A2 := A1.setLm xn
      have hxn := HX.out.n
      simp only at hxn
      have F2 := (F1.out.trans (hcf.sub (fun k hk => .inl (by simp only [List.mem_cons, List.not_mem_nil, or_false] at hk ⊢; rcases hk with q | q | q <;> simp [q]))))
      have hC := ((Ch.refl w2 [PB]).set (g := PB) (i := 1) (v := .bool true) (.inl (by simp))).set (g := PB) (i := 2) (v := .int .i64 xn) (.inl (by simp))
      have HDONE : Hid (SideP W D P L M n c MB PB gl gn sb ((w2.setCell ⟨PB, 1, none⟩ (.bool true)).setCell ⟨PB, 2, none⟩ (.int .i64 xn))) := by
        have hQ3 := hq2.ch hC (side_npb HND.out).1
        have hM3 := hM2.ch hC (side_npb HND.out).2 (fun b off e => by
          have := HSN.out b (HSA.out b off e)
          simp only [List.mem_cons, List.not_mem_nil, or_false, not_or] at this ⊢
          exact this.2.2.2.2.2.2.2)
        refine side_done2 hQ3 hM3 HR.out ⟨⟨_, A2, fun _ _ => hmx, by omega, ?_⟩, hu5⟩ (F2.trans (hC.sub (fun k hk => .inl (by simp only [List.mem_cons, List.not_mem_nil, or_false] at hk ⊢; simp [hk])))) HND.out HLT.out HSN.out HSA.out
        simp [Lit.wf, IntKind.min, IntKind.max, IntKind.signed, IntKind.bits] at hxn
        omega
      have c1 := hpw.c1
      have d2 := A1.c2
      have cf := hpw.fz
      have nBP : W.heap.size ∉ [P, L, M] := fun c => BXB.out (by simp only [List.mem_cons, List.not_mem_nil, or_false] at c ⊢; rcases c with q | q | q <;> simp [q])
      have nBB : W.heap.size ≠ PB := fun e => BXB.out (by simp [e])
      replace a0 := hcf.cell a0 nBP
      replace a1 := hcf.cell a1 nBP
      have b1 := cell_set (g := PB) (i := 1) (v := .bool true) a1 nBB
      have b2 := cell_set (g := PB) (i := 2) (v := .int .i64 xn) b1 nBB
      clear hcf hM2 hpw hlm A1 A2 hC F2 hmx hq2 hf2 KA hxn
      go_wp2
      go_ret
      exact ⟨rfl, HDONE.out⟩
  · have h0d : decide (0 ≤ xn) = false := by rw [decide_eq_false_iff_not]; exact h0
    have h0n : xn < 0 := by omega
    have hin : hasB n xn = false := by unfold hasB; simp only [Bool.and_eq_false_iff, decide_eq_false_iff_not]; exact .inl h0
    go_upto_region 2 with fail
    go_quiet (fail)
    have hbd : Below Y.heap.size Y (Y.drewN nq) := below_drewN (Below.refl _ _) nq
    have Q1 := Lib.hid (Q0.out.below hbd)
    have M1 := Lib.hid (M0.out.below hbd)
    have P1 := Lib.hid (P0.out.ch (S := []) (Ch.of_below hbd) (by simp))
    have B1 := Lib.hid (B0.out.trans (hbd.mono B0.out.size))
    replace a0 := keep_cell hbd a0
    replace a1 := keep_cell hbd a1
    replace a3 := keep_cell hbd a3
    clear hbd Q0 M0 P0 B0 m1
    generalize Y.drewN nq = Z at *
    have F1 : Hid (Ch W Z [P, L, M, MB, gl, gn, PB]) := Ch.of_below B1.out
    have KA := Lib.hid (arm_q Q1.out xn HX.out.n)
    go_wp2_with fail
    refine KA.out.mono ?_
    rintro x w2 ⟨rfl, hq2, hf2⟩
    have hcf : Ch Z w2 [P, L, M] := Ch.of_fr3 hf2 (by simp)
    have hM2 := side_ch M1.out HND.out HSN.out HSA.out hcf
    have hP2 := side_pw P1.out HND.out hcf
    obtain ⟨⟨lm, hpw, hlm⟩, hu5⟩ := hP2
    obtain ⟨mx, hmx⟩ : ∃ mx, mx = max xn 0 := ⟨_, rfl⟩
    obtain rfl : mx = 0 := by omega
    have A1 := hpw.setAr true
    have A2 := A1.setLm 0
    have hxn := HX.out.n
    simp only at hxn
    have F2 := (F1.out.trans (hcf.sub (fun k hk => .inl (by simp only [List.mem_cons, List.not_mem_nil, or_false] at hk ⊢; rcases hk with q | q | q <;> simp [q]))))
    have hC := ((Ch.refl w2 [PB]).set (g := PB) (i := 1) (v := .bool true) (.inl (by simp))).set (g := PB) (i := 2) (v := .int .i64 0) (.inl (by simp))
    have HDONE : Hid (SideP W D P L M n c MB PB gl gn sb ((w2.setCell ⟨PB, 1, none⟩ (.bool true)).setCell ⟨PB, 2, none⟩ (.int .i64 0))) := by
      have hQ3 := hq2.ch hC (side_npb HND.out).1
      have hM3 := hM2.ch hC (side_npb HND.out).2 (fun b off e => by
        have := HSN.out b (HSA.out b off e)
        simp only [List.mem_cons, List.not_mem_nil, or_false, not_or] at this ⊢
        exact this.2.2.2.2.2.2.2)
      refine side_done2 hQ3 hM3 HR.out ⟨⟨_, A2, fun _ _ => hmx, by omega, ?_⟩, hu5⟩ (F2.trans (hC.sub (fun k hk => .inl (by simp only [List.mem_cons, List.not_mem_nil, or_false] at hk ⊢; simp [hk])))) HND.out HLT.out HSN.out HSA.out
      simp [Lit.wf, IntKind.min, IntKind.max, IntKind.signed, IntKind.bits] at hxn
      omega
    have c1 := hpw.c1
    have d2 := A1.c2
    have cf := hpw.fz
    have nBP : W.heap.size ∉ [P, L, M] := fun c => BXB.out (by simp only [List.mem_cons, List.not_mem_nil, or_false] at c ⊢; rcases c with q | q | q <;> simp [q])
    have nBB : W.heap.size ≠ PB := fun e => BXB.out (by simp [e])
    replace a0 := hcf.cell a0 nBP
    replace a1 := hcf.cell a1 nBP
    have b1 := cell_set (g := PB) (i := 1) (v := .bool true) a1 nBB
    have b2 := cell_set (g := PB) (i := 2) (v := .int .i64 0) b1 nBB
    clear hcf hM2 hpw hlm A1 A2 hC F2 hmx hq2 hf2 KA hxn
    go_wp2
    go_ret
    exact ⟨rfl, HDONE.out⟩
end
end Go.Proofs.Ytobgopiadfinbaa
