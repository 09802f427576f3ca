/-
  LAW 05's does: a Read.
-/
import Derived.Test.YtobgopiadfinbaaDpWrite
namespace Go.Proofs.Ytobgopiadfinbaa
open Go.RowKit
section
variable {W w2 w3 : World} {D P L M n c MB PB gl gn cl cn : Nat} {p' : Pn} {sb : Option Nat} {las' : List (List UInt8)} {f' : Int → Option (List UInt8)} {sa : Option Addr} {sc : Nat} {lt nt : Nat → ByteArray} {ls : List Int}
/-- A side as it was, behind more uses. -/
def SideP (W : World) (D P L M n c MB PB gl gn : Nat) (sb : Option Nat) (w' : World) : Prop := ∃ p'' gl' sb', Side w' D P L M n (c + 1) MB PB p'' gl' gn sb' ∧ Ch W w' [P, L, M, MB, gl, gn, PB] ∧ (gl' = gl ∨ W.heap.size ≤ gl') ∧ ∀ b, sb' = some b → sb = some b ∨ W.heap.size ≤ b
theorem side_done2 (hQ : DQ w2 D P L M n c p' las' f') (hM : MdAt w2 MB gl gn cl cn sa sc n lt nt ls) (hR : CR n las' f' lt nt ls) (hP : PwR w2 PB c p') (hch : Ch W w2 [P, L, M, MB, gl, gn, PB])
    (hnd : [D, P, L, M, MB, gl, gn, PB].Nodup) (hW : ∀ k ∈ [D, P, L, M, MB, gl, gn, PB], k < W.heap.size) (hsn : ∀ b, sb = some b → b ∉ [D, P, L, M, MB, gl, gn, PB]) (hsa : ∀ b off, sa = some ⟨b, off, none⟩ → sb = some b) : SideP W D P L M n c MB PB gl gn sb w2 := by
  have hP2 : PwR w2 PB (c + 1) p' := by
    obtain ⟨⟨lm, h1, h2, h3, h4⟩, h5⟩ := hP
    exact ⟨⟨lm, h1, h2, by omega, h4⟩, ⟨h5.1, by omega⟩⟩
  exact side_done (hQ.more (Nat.le_succ c)) hM hR hP2 (Fr3.refl _ _ _ _) hch hnd hW hsn (fun b off e => .inl (hsa b off e))
theorem side_keep (h : SideP W D P L M n c MB PB gl gn sb w2) (hb : Below w2.heap.size w2 w3) (_hs : W.heap.size ≤ w2.heap.size) : SideP W D P L M n c MB PB gl gn sb w3 := by
  obtain ⟨p', gl', sb', ⟨⟨las, f, cl, cn, sa, sc, lt, nt, ls, h1, h2, h3, h4⟩, h5, h6, h7⟩, h8, h9⟩ := h
  exact ⟨p', gl', sb', ⟨⟨las, f, cl, cn, sa, sc, lt, nt, ls, h1.below hb, h2.below hb, h3, h4⟩, h5.ch (S := []) (Ch.of_below hb) (by simp), h6, h7⟩, h8.trans (Ch.of_below hb), h9⟩
theorem side_drew (h : SideP W D P L M n c MB PB gl gn sb w2) (k : Nat) : SideP W D P L M n c MB PB gl gn sb (w2.drewN k) := side_keep h (ch_drew w2 k) (by obtain ⟨_, _, _, _, h8, _⟩ := h; exact h8.size)
end
section
variable {W : World} {D P L M n c MB PB gl gn : Nat} {p : Pn} {sb : Option Nat}
set_option maxRecDepth 100000 in
set_option maxHeartbeats 4000000 in
theorem does_read (h : Side W D P L M n c MB PB p gl gn sb) (_hc : c ≤ 900) (x : Da) (hx : ArgOk W x [D, P, L, M, MB, gl, gn, PB]) (hk : x.k = 2) :
    Calls Try.prog 8 #[.pointer (some ⟨D, 0, none⟩), .pointer (some ⟨MB, 0, none⟩), .pointer (some ⟨PB, 0, none⟩), .agg x.cells] W (DoP W D P L M n c MB PB gl gn sb) := by
  obtain ⟨⟨las, f, cl, cn, sa, sc, lt, nt, ls, hQ, hM, hR, hsa⟩, hW, hnd, hsn⟩ := h
  obtain ⟨xk, xn, xo, da, dl, dc, ka, kl, kc⟩ := x
  simp only at hk
  subst hk
  simp only [Da.cells]
  have hb0 := (Below.refl W.heap.size W).alloc (Nat.le_refl _) (.cells #[.int .i64 2, .int .i64 xn, .bool xo, .slice da dl.length dc, .slice ka kl.length kc] 38)
  have a1 : (W.alloc (.cells #[.int .i64 2, .int .i64 xn, .bool xo, .slice da dl.length dc, .slice ka kl.length kc] 38)).cell? ⟨W.heap.size, 1, none⟩ = some (.int .i64 xn) := new_cell rfl rfl
  have a0 : (W.alloc (.cells #[.int .i64 2, .int .i64 xn, .bool xo, .slice da dl.length dc, .slice ka kl.length kc] 38)).cell? ⟨W.heap.size, 0, none⟩ = some (.int .i64 2) := new_cell rfl rfl
  have a3 : (W.alloc (.cells #[.int .i64 2, .int .i64 xn, .bool xo, .slice da dl.length dc, .slice ka kl.length kc] 38)).cell? ⟨W.heap.size, 3, none⟩ = some (.slice da dl.length dc) := new_cell rfl rfl
  have KJ := Lib.hid (join_any da dl dc _ (by have := hx.dn; simp only at this; omega) (hx.ds.below hb0) hx.dz)
  have Q0 := Lib.hid (hQ.below hb0)
  have M0 := Lib.hid (hM.below hb0)
  have P0 := Lib.hid (hW.ch (S := []) (Ch.of_below hb0) (by simp))
  have B0 := Lib.hid hb0
  have HX := Lib.hid hx
  have HR := Lib.hid hR
  have HND := Lib.hid hnd
  have HSN := Lib.hid hsn
  have HSA := Lib.hid hsa
  have HLT : Hid (∀ k ∈ [D, P, L, M, MB, gl, gn, PB], k < W.heap.size) := by
    obtain ⟨k, _, hd⟩ := hQ.ex
    have h1 : D < W.heap.size := block_lt (p := ⟨D, 0, none⟩) hd.d0
    have h2 : P < W.heap.size := block_lt (p := ⟨P, 0, none⟩) hd.p0
    have h3 := blk_lt hd.lb
    have h4 : M < W.heap.size := by
      obtain ⟨D0, ⟨es, clock, hbM, F, hs, hD⟩, h5⟩ := hd.mp
      exact blk_lt hbM
    have h5 := hM.lts
    obtain ⟨lm, hp, _⟩ := hW.ex
    have h6 := hp.lt
    show ∀ k ∈ _, k < _
    intro k hk
    simp only [List.mem_cons, List.not_mem_nil, or_false] at hk
    rcases hk with rfl | rfl | rfl | rfl | rfl | rfl | rfl | rfl <;> omega
  have BXB : Hid (W.heap.size ∉ [D, P, L, M, MB, gl, gn, PB]) := fun c => Nat.lt_irrefl _ (HLT.out _ c)
  clear hb0 hx hQ hM hW hR hnd hsn hsa
  go_enter Try.func8, Try.ntmps8
  go_upto_region 1 with fail
  generalize W.alloc (.cells #[.int .i64 2, .int .i64 xn, .bool xo, .slice da dl.length dc, .slice ka kl.length kc] 38) = Y at *
  go_wp2_with fail
  refine KJ.out.mono ?_
  rintro x w1 ⟨rfl, rfl⟩
  have m1 := M0.out.c1
  clear KJ
  by_cases h0 : 0 ≤ xn
  · by_cases h1 : xn < (n : Int)
    · have hin : hasB n xn = true := by unfold hasB; simp only [Bool.and_eq_true, decide_eq_true_eq]; exact ⟨h0, h1⟩
      go_upto_region 2 with fail
      go_quiet (fail)
      have hbd : Below Y.heap.size Y (Y.drewN nq) := below_drewN (Below.refl _ _) nq
      have Q1 := Lib.hid (Q0.out.below hbd)
      have M1 := Lib.hid (M0.out.below hbd)
      have P1 := Lib.hid (P0.out.ch (S := []) (Ch.of_below hbd) (by simp))
      have B1 := Lib.hid (B0.out.trans (hbd.mono B0.out.size))
      replace a0 := keep_cell hbd a0
      replace a1 := keep_cell hbd a1
      replace a3 := keep_cell hbd a3
      clear hbd Q0 M0 P0 B0 m1
      generalize Y.drewN nq = Z at *
      have F1 : Hid (Ch W Z [P, L, M, MB, gl, gn, PB]) := Ch.of_below B1.out
      have KR := Lib.hid (read_q Q1.out xn)
      have c0 := (show PwR Z PB c p from P1.out).ex
      obtain ⟨lm, hpw, hlm⟩ := c0
      have c0 := hpw.c0
      clear hpw hlm
      have hZ1 := Lib.hid (side_done2 Q1.out M1.out HR.out P1.out F1.out HND.out HLT.out HSN.out HSA.out)
      cases ho : p.off
      · rw [ho] at c0
        have hE : rdE n p xn = 0 := by unfold rdE; rw [ho, hin]; rfl
        obtain ⟨q, rfl⟩ : ∃ q : Nat, xn = (q : Int) := ⟨xn.toNat, by omega⟩
        have hq : q < n := by omega
        have hS : rdS n p las f (q : Int) = nt q := by unfold rdS; rw [ho, hin, HR.out.hn q hq]; rfl
        rw [hE, hS] at KR
        have m1 := M1.out.c1
        have mq := M1.out.rn q hq
        have hcn := M1.out.cp.2
        clear hE hS
        go_wp2_with fail
        refine KR.out.mono ?_
        rintro x w3 ⟨rfl, hb3⟩
        have hZ2 := Lib.hid (side_keep hZ1.out hb3 B1.out.size)
        replace c0 := keep_cell hb3 c0
        replace m1 := keep_cell hb3 m1
        replace mq := keep_cell hb3 mq
        replace a1 := keep_cell hb3 a1
        clear hb3 KR
        go_upto_region 33 with fail
        go_quiet (fail)
        go_wp2
        go_ret
        exact ⟨rfl, side_drew hZ2.out nq⟩
      · rw [ho] at c0
        have hE : rdE n p xn = 6 := by unfold rdE; rw [ho]; rfl
        have hS : rdS n p las f xn = ⟨#[]⟩ := by unfold rdS; rw [ho]; rfl
        rw [hE, hS] at KR
        clear hE hS
        go_wp2_with fail
        refine KR.out.mono ?_
        rintro x w3 ⟨rfl, hb3⟩
        have hZ2 := Lib.hid (side_keep hZ1.out hb3 B1.out.size)
        replace c0 := keep_cell hb3 c0
        clear hb3 KR
        go_wp2
        go_ret
        exact ⟨rfl, hZ2.out⟩
    · have hin : hasB n xn = false := by unfold hasB; simp only [Bool.and_eq_false_iff, decide_eq_false_iff_not]; exact .inr h1
      have h1d : decide (xn < (n : Int)) = false := by rw [decide_eq_false_iff_not]; exact h1
      go_upto_region 2 with fail
      go_quiet (fail)
      have hbd : Below Y.heap.size Y (Y.drewN nq) := below_drewN (Below.refl _ _) nq
      have Q1 := Lib.hid (Q0.out.below hbd)
      have M1 := Lib.hid (M0.out.below hbd)
      have P1 := Lib.hid (P0.out.ch (S := []) (Ch.of_below hbd) (by simp))
      have B1 := Lib.hid (B0.out.trans (hbd.mono B0.out.size))
      replace a0 := keep_cell hbd a0
      replace a1 := keep_cell hbd a1
      replace a3 := keep_cell hbd a3
      clear hbd Q0 M0 P0 B0 m1
      generalize Y.drewN nq = Z at *
      have F1 : Hid (Ch W Z [P, L, M, MB, gl, gn, PB]) := Ch.of_below B1.out
      have KR := Lib.hid (read_q Q1.out xn)
      have c0 := (show PwR Z PB c p from P1.out).ex
      obtain ⟨lm, hpw, hlm⟩ := c0
      have c0 := hpw.c0
      clear hpw hlm
      have hZ1 := Lib.hid (side_done2 Q1.out M1.out HR.out P1.out F1.out HND.out HLT.out HSN.out HSA.out)
      cases ho : p.off
      · rw [ho] at c0
        have hE : rdE n p xn = 1 := by unfold rdE; rw [ho, hin]; rfl
        have hS : rdS n p las f xn = ⟨#[]⟩ := by unfold rdS; rw [ho, hin]; rfl
        rw [hE, hS] at KR
        clear hE hS
        go_wp2_with fail
        refine KR.out.mono ?_
        rintro x w3 ⟨rfl, hb3⟩
        have hZ2 := Lib.hid (side_keep hZ1.out hb3 B1.out.size)
        replace c0 := keep_cell hb3 c0
        clear hb3 KR
        go_wp2
        go_ret
        exact ⟨rfl, hZ2.out⟩
      · rw [ho] at c0
        have hE : rdE n p xn = 6 := by unfold rdE; rw [ho]; rfl
        have hS : rdS n p las f xn = ⟨#[]⟩ := by unfold rdS; rw [ho]; rfl
        rw [hE, hS] at KR
        clear hE hS
        go_wp2_with fail
        refine KR.out.mono ?_
        rintro x w3 ⟨rfl, hb3⟩
        have hZ2 := Lib.hid (side_keep hZ1.out hb3 B1.out.size)
        replace c0 := keep_cell hb3 c0
        clear hb3 KR
        go_wp2
        go_ret
        exact ⟨rfl, hZ2.out⟩
  · have h0d : decide (0 ≤ xn) = false := by rw [decide_eq_false_iff_not]; exact h0
    have h0n : xn < 0 := by omega
    have hin : hasB n xn = false := by unfold hasB; simp only [Bool.and_eq_false_iff, decide_eq_false_iff_not]; exact .inl h0
    go_upto_region 2 with fail
    go_quiet (fail)
    have hbd : Below Y.heap.size Y (Y.drewN nq) := below_drewN (Below.refl _ _) nq
    have Q1 := Lib.hid (Q0.out.below hbd)
    have M1 := Lib.hid (M0.out.below hbd)
    have P1 := Lib.hid (P0.out.ch (S := []) (Ch.of_below hbd) (by simp))
    have B1 := Lib.hid (B0.out.trans (hbd.mono B0.out.size))
    replace a0 := keep_cell hbd a0
    replace a1 := keep_cell hbd a1
    replace a3 := keep_cell hbd a3
    clear hbd Q0 M0 P0 B0 m1
    generalize Y.drewN nq = Z at *
    have F1 : Hid (Ch W Z [P, L, M, MB, gl, gn, PB]) := Ch.of_below B1.out
    have KR := Lib.hid (read_q Q1.out xn)
    have c0 := (show PwR Z PB c p from P1.out).ex
    obtain ⟨lm, hpw, hlm⟩ := c0
    have c0 := hpw.c0
    clear hpw hlm
    have hZ1 := Lib.hid (side_done2 Q1.out M1.out HR.out P1.out F1.out HND.out HLT.out HSN.out HSA.out)
    cases ho : p.off
    · rw [ho] at c0
      have hE : rdE n p xn = 1 := by unfold rdE; rw [ho, hin]; rfl
      have hS : rdS n p las f xn = ⟨#[]⟩ := by unfold rdS; rw [ho, hin]; rfl
      rw [hE, hS] at KR
      clear hE hS
      go_wp2_with fail
      refine KR.out.mono ?_
      rintro x w3 ⟨rfl, hb3⟩
      have hZ2 := Lib.hid (side_keep hZ1.out hb3 B1.out.size)
      replace c0 := keep_cell hb3 c0
      clear hb3 KR
      go_wp2
      go_ret
      exact ⟨rfl, hZ2.out⟩
    · rw [ho] at c0
      have hE : rdE n p xn = 6 := by unfold rdE; rw [ho]; rfl
      have hS : rdS n p las f xn = ⟨#[]⟩ := by unfold rdS; rw [ho]; rfl
      rw [hE, hS] at KR
      clear hE hS
      go_wp2_with fail
      refine KR.out.mono ?_
      rintro x w3 ⟨rfl, hb3⟩
      have hZ2 := Lib.hid (side_keep hZ1.out hb3 B1.out.size)
      replace c0 := keep_cell hb3 c0
      clear hb3 KR
      go_wp2
      go_ret
      exact ⟨rfl, hZ2.out⟩
end
end Go.Proofs.Ytobgopiadfinbaa
