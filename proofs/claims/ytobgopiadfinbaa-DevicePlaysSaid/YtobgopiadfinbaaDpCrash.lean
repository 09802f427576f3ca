/-
  LAW 05's does: a Crash.
-/
import Derived.Test.YtobgopiadfinbaaDpWrite
import Derived.Test.YtobgopiadfinbaaDpPut2
import Derived.Test.YtobgopiadfinbaaDpArm
import Derived.Test.YtobgopiadfinbaaDvKeepA
namespace Go.Proofs.Ytobgopiadfinbaa
open Go.RowKit
theorem side_ncr {D P L M MB PB gl gn : Nat} (hnd : [D, P, L, M, MB, gl, gn, PB].Nodup) : (D ∉ [gl, gn, MB] ∧ P ∉ [gl, gn, MB] ∧ L ∉ [gl, gn, MB] ∧ M ∉ [gl, gn, MB]) ∧ PB ∉ [gl, gn, MB] := by
  have nd := hnd
  simp only [List.nodup_cons, List.mem_cons, List.not_mem_nil, or_false, not_or, List.nodup_nil, and_true] at nd
  obtain ⟨⟨_, _, _, d4, d5, d6, _⟩, ⟨_, _, p4, p5, p6, _⟩, ⟨_, l4, l5, l6, _⟩, ⟨m4, m5, m6, _⟩, ⟨_, _, b7⟩, ⟨_, g7⟩, g8⟩ := nd
  simp only [List.mem_cons, List.not_mem_nil, or_false, not_or]
  exact ⟨⟨⟨d5, d6, d4⟩, ⟨p5, p6, p4⟩, ⟨l5, l6, l4⟩, ⟨m5, m6, m4⟩⟩, fun e => g7 e.symm, fun e => g8.1 e.symm, fun e => b7 e.symm⟩
theorem side_nsm {D P L M MB PB gl gn : Nat} (_hnd : [D, P, L, M, MB, gl, gn, PB].Nodup) : ∀ k ∈ [gl, gn, MB], k ∈ [P, L, M, MB, gl, gn, PB] := fun k hk => by
  simp only [List.mem_cons, List.not_mem_nil, or_false] at hk ⊢
  rcases hk with q | q | q <;> simp [q]
/-- The first j of one, the others of another. -/
def mixT (j : Nat) (c t : Nat → ByteArray) : Nat → ByteArray := fun i => if i < j then c i else t i
theorem mixT_zero (c t : Nat → ByteArray) : mixT 0 c t = t := by funext i; unfold mixT; rw [if_neg (by omega)]
theorem mixT_put (j : Nat) (c t : Nat → ByteArray) : put1 (mixT j c t) j (c j) = mixT (j + 1) c t := by
  funext i
  unfold put1 mixT
  by_cases e : i = j
  · subst e
    rw [if_pos rfl, if_pos (by omega)]
  · rw [if_neg e]
    by_cases h : i < j
    · rw [if_pos h, if_pos (by omega)]
    · rw [if_neg h, if_neg (by omega)]
theorem mixT_same {j : Nat} {c t : Nat → ByteArray} (h : c j = t j) : mixT j c t = mixT (j + 1) c t := by
  rw [← mixT_put]
  funext i
  unfold put1
  by_cases e : i = j
  · subst e
    rw [if_pos rfl]
    unfold mixT
    rw [if_neg (by omega), h]
  · rw [if_neg e]
theorem mixT_at (j : Nat) (c t : Nat → ByteArray) : mixT (j + 1) c t j = c j := by unfold mixT; rw [if_pos (by omega)]
theorem mixT_new (j : Nat) (c t : Nat → ByteArray) : mixT j c t j = t j := by unfold mixT; rw [if_neg (by omega)]
/-- What lasts behind a crash. -/
def kept (kl : List Int) (lt nt : Nat → ByteArray) : Nat → ByteArray := fun i => if (kl.any fun z => z == (i : Int)) = true then nt i else lt i
/-- The model while a crash walks over it; in the midst of a round. -/
structure CrS (U wr : World) (MB gl gn cl cn : Nat) (sa : Option Addr) (sc n j : Nat) (cv lt nt : Nat → ByteArray) (ls : List Int) : Prop where
  md : MdAt wr MB gl gn cl cn sa sc n (mixT j cv lt) (mixT j cv nt) ls
  ch : Ch U wr [gl, gn]
structure CrD (U wr : World) (MB gl gn cl cn : Nat) (sa : Option Addr) (sc n j : Nat) (cv lt nt : Nat → ByteArray) (ls : List Int) : Prop where
  md : MdAt wr MB gl gn cl cn sa sc n (mixT (j + 1) cv lt) (mixT j cv nt) ls
  ch : Ch U wr [gl, gn]
section
variable {U wr X : World} {MB gl gn cl cn : Nat} {sa : Option Addr} {sc n j : Nat} {cv lt nt : Nat → ByteArray} {ls : List Int}
theorem CrS.no (h : CrS U wr MB gl gn cl cn sa sc n j cv lt nt ls) (he : cv j = lt j) : CrD U wr MB gl gn cl cn sa sc n j cv lt nt ls := ⟨by rw [← mixT_same he]; exact h.md, h.ch⟩
theorem CrS.yes (h : CrS U wr MB gl gn cl cn sa sc n j cv lt nt ls) (hj : j < n) : CrD U ((wr.setCell ⟨gl, j, none⟩ (.string (cv j))).drew) MB gl gn cl cn sa sc n j cv lt nt ls :=
  ⟨by rw [← mixT_put]; exact (h.md.setLast hj (cv j)).below (Below.refl _ _).drew, (h.ch.set (.inl (by simp))).trans (Ch.of_below (Below.refl _ _).drew)⟩
theorem CrD.done (h : CrD U wr MB gl gn cl cn sa sc n j cv lt nt ls) (hj : j < n) : CrS U ((wr.setCell ⟨gn, j, none⟩ (.string (cv j))).drew) MB gl gn cl cn sa sc n (j + 1) cv lt nt ls :=
  ⟨by rw [← mixT_put j cv nt]; exact (h.md.setNow hj (cv j)).below (Below.refl _ _).drew, (h.ch.set (.inl (by simp))).trans (Ch.of_below (Below.refl _ _).drew)⟩
end
theorem CR.crashed {W X : World} {D P L M n c c' : Nat} {p p' : Pn} {las l2 : List (List UInt8)} {f f2 : Int → Option (List UInt8)} {lt nt : Nat → ByteArray} {ls : List Int} (h : CR n las f lt nt ls) (_h2 : DQ X D P L M n c' p' l2 f2) (hQ : DQ W D P L M n c p las f) (kl : List Int) : CR n (keepLas f las kl) (fun _ => none) (mixT n (kept kl lt nt) lt) (mixT n (kept kl lt nt) nt) [] := by
  have key : ∀ i, i < n → kept kl lt nt i = txt ((keepLas f las kl).getD i blank64) := fun i hi => by
    rw [keepLas_getD hQ.ok kl las (dq_len hQ) i hi]
    unfold kept
    split
    · exact h.hn i hi
    · exact h.hl i hi
  refine ⟨fun i hi => ?_, fun i hi => ?_, List.Pairwise.nil, fun z => by simp, Nat.zero_le _⟩
  · unfold mixT
    rw [if_pos hi]
    exact key i hi
  · unfold mixT
    rw [if_pos hi]
    exact key i hi
section
variable {W : World} {D P L M n c MB PB gl gn : Nat} {p : Pn} {sb : Option Nat}
set_option maxRecDepth 100000 in
set_option maxHeartbeats 4000000 in
theorem does_crash (h : Side W D P L M n c MB PB p gl gn sb) (_hc : c ≤ 900) (x : Da) (hx : ArgOk W x [D, P, L, M, MB, gl, gn, PB]) (hk : x.k = 4) :
    Calls Try.prog 8 #[.pointer (some ⟨D, 0, none⟩), .pointer (some ⟨MB, 0, none⟩), .pointer (some ⟨PB, 0, none⟩), .agg x.cells] W (DoP W D P L M n c MB PB gl gn sb) := by
  obtain ⟨⟨las, f, cl, cn, sa, sc, lt, nt, ls, hQ, hM, hR, hsa⟩, hW, hnd, hsn⟩ := h
  obtain ⟨xk, xn, xo, da, dl, dc, ka, kl, kc⟩ := x
  simp only at hk
  subst hk
  simp only [Da.cells]
  have hb0 := (Below.refl W.heap.size W).alloc (Nat.le_refl _) (.cells #[.int .i64 4, .int .i64 xn, .bool xo, .slice da dl.length dc, .slice ka kl.length kc] 38)
  have a1 : (W.alloc (.cells #[.int .i64 4, .int .i64 xn, .bool xo, .slice da dl.length dc, .slice ka kl.length kc] 38)).cell? ⟨W.heap.size, 1, none⟩ = some (.int .i64 xn) := new_cell rfl rfl
  have a0 : (W.alloc (.cells #[.int .i64 4, .int .i64 xn, .bool xo, .slice da dl.length dc, .slice ka kl.length kc] 38)).cell? ⟨W.heap.size, 0, none⟩ = some (.int .i64 4) := new_cell rfl rfl
  have a3 : (W.alloc (.cells #[.int .i64 4, .int .i64 xn, .bool xo, .slice da dl.length dc, .slice ka kl.length kc] 38)).cell? ⟨W.heap.size, 3, none⟩ = some (.slice da dl.length dc) := new_cell rfl rfl
  have a4 : (W.alloc (.cells #[.int .i64 4, .int .i64 xn, .bool xo, .slice da dl.length dc, .slice ka kl.length kc] 38)).cell? ⟨W.heap.size, 4, none⟩ = some (.slice ka kl.length kc) := new_cell rfl rfl
  have KJ := Lib.hid (join_any da dl dc _ (by have := hx.dn; simp only at this; omega) (hx.ds.below hb0) hx.dz)
  have Q0 := Lib.hid (hQ.below hb0)
  have M0 := Lib.hid (hM.below hb0)
  have P0 := Lib.hid (hW.ch (S := []) (Ch.of_below hb0) (by simp))
  have B0 := Lib.hid hb0
  have HX := Lib.hid hx
  have HR := Lib.hid hR
  have HND := Lib.hid hnd
  have HSN := Lib.hid hsn
  have HSA := Lib.hid hsa
  have HLT : Hid (∀ k ∈ [D, P, L, M, MB, gl, gn, PB], k < W.heap.size) := by
    obtain ⟨k, _, hd⟩ := hQ.ex
    have h1 : D < W.heap.size := block_lt (p := ⟨D, 0, none⟩) hd.d0
    have h2 : P < W.heap.size := block_lt (p := ⟨P, 0, none⟩) hd.p0
    have h3 := blk_lt hd.lb
    have h4 : M < W.heap.size := by
      obtain ⟨D0, ⟨es, clock, hbM, F, hs, hD⟩, h5⟩ := hd.mp
      exact blk_lt hbM
    have h5 := hM.lts
    obtain ⟨lm, hp, _⟩ := hW.ex
    have h6 := hp.lt
    show ∀ k ∈ _, k < _
    intro k hk
    simp only [List.mem_cons, List.not_mem_nil, or_false] at hk
    rcases hk with rfl | rfl | rfl | rfl | rfl | rfl | rfl | rfl <;> omega
  have BXB : Hid (W.heap.size ∉ [D, P, L, M, MB, gl, gn, PB]) := fun c => Nat.lt_irrefl _ (HLT.out _ c)
  clear hb0 hx hQ hM hW hR hnd hsn hsa
  go_enter Try.func8, Try.ntmps8
  go_upto_region 1 with fail
  generalize W.alloc (.cells #[.int .i64 4, .int .i64 xn, .bool xo, .slice da dl.length dc, .slice ka kl.length kc] 38) = Y at *
  go_wp2_with fail
  refine KJ.out.mono ?_
  rintro x w1 ⟨rfl, rfl⟩
  have m1 := M0.out.c1
  clear KJ
  by_cases h0 : 0 ≤ xn
  · by_cases h1 : xn < (n : Int)
    · have hin : hasB n xn = true := by unfold hasB; simp only [Bool.and_eq_true, decide_eq_true_eq]; exact ⟨h0, h1⟩
      go_upto_region 2 with fail
      go_quiet (fail)
      have hbd : Below Y.heap.size Y (Y.drewN nq) := below_drewN (Below.refl _ _) nq
      have Q1 := Lib.hid (Q0.out.below hbd)
      have M1 := Lib.hid (M0.out.below hbd)
      have P1 := Lib.hid (P0.out.ch (S := []) (Ch.of_below hbd) (by simp))
      have B1 := Lib.hid (B0.out.trans (hbd.mono B0.out.size))
      replace a0 := keep_cell hbd a0
      replace a1 := keep_cell hbd a1
      replace a3 := keep_cell hbd a3
      replace a4 := keep_cell hbd a4
      clear hbd Q0 M0 P0 B0 m1
      generalize Y.drewN nq = Z at *
      have F1 : Hid (Ch W Z [P, L, M, MB, gl, gn, PB]) := Ch.of_below B1.out
      have HKA : Hid (IntsIn Z ka L kl) := by
        by_cases e0 : kl = []
        · exact .inl e0
        rcases HX.out.ks with e | ⟨b, off, e, hb⟩
        · exact .inl e
        · have hn := HX.out.ka e0 b off e
          exact .inr ⟨b, off, e, fun e2 => hn (by simp [e2]), fun i hi => F1.out.cell (hb i hi) (fun c => hn (List.mem_cons_of_mem _ c))⟩
      have KC := Lib.hid (crash_q Q1.out ka kl kc (by have := HX.out.kn; simp only at this; omega) HX.out.kz HKA.out)
      go_wp2_with fail
      refine KC.out.mono ?_
      rintro x w2 ⟨rfl, hq2, hf2⟩
      have hcf : Ch Z w2 [P, L, M] := Ch.of_fr3 hf2 (by simp)
      have hM2 := side_ch M1.out HND.out HSN.out HSA.out hcf
      have hP2 := side_pw P1.out HND.out hcf
      obtain ⟨⟨lm, hpw, hlm⟩, hu5⟩ := hP2
      have A1 := hpw.setOff false
      have A2 := A1.setAr false
      have F2 := (F1.out.trans (hcf.sub (fun k hk => .inl (by simp only [List.mem_cons, List.not_mem_nil, or_false] at hk ⊢; rcases hk with q | q | q <;> simp [q]))))
      have hC := ((Ch.refl w2 [PB]).set (g := PB) (i := 0) (v := .bool false) (.inl (by simp))).set (g := PB) (i := 1) (v := .bool false) (.inl (by simp))
      have HQ3 := Lib.hid (hq2.ch hC (side_npb HND.out).1)
      have HM3 := Lib.hid (hM2.ch hC (side_npb HND.out).2 (fun b off e => by
        have := HSN.out b (HSA.out b off e)
        simp only [List.mem_cons, List.not_mem_nil, or_false, not_or] at this ⊢
        exact this.2.2.2.2.2.2.2))
      have HP3 : Hid (PwR ((w2.setCell ⟨PB, 0, none⟩ (.bool false)).setCell ⟨PB, 1, none⟩ (.bool false)) PB c p.crash) := ⟨⟨lm, A2, fun e => by (cases e), hlm.2⟩, hu5⟩
      have HF3 : Hid (Ch W ((w2.setCell ⟨PB, 0, none⟩ (.bool false)).setCell ⟨PB, 1, none⟩ (.bool false)) [P, L, M, MB, gl, gn, PB]) := F2.trans (hC.sub (fun k hk => .inl (by simp only [List.mem_cons, List.not_mem_nil, or_false] at hk ⊢; simp [hk])))
      have HI3 : Hid (IntsAt ((w2.setCell ⟨PB, 0, none⟩ (.bool false)).setCell ⟨PB, 1, none⟩ (.bool false)) ka kl) := ints_chn HX.out.ks HF3.out (fun e0 b off e c => HX.out.ka e0 b off e (List.mem_cons_of_mem _ c))
      have c0 := hpw.c0
      have d1 := A1.c1
      have cf := hpw.fz
      have nBP : W.heap.size ∉ [P, L, M] := fun c => BXB.out (by simp only [List.mem_cons, List.not_mem_nil, or_false] at c ⊢; rcases c with q | q | q <;> simp [q])
      have nBG : W.heap.size ∉ [gl, gn] := fun c => BXB.out (by simp only [List.mem_cons, List.not_mem_nil, or_false] at c ⊢; rcases c with q | q <;> simp [q])
      have nBB : W.heap.size ≠ PB := fun e => BXB.out (by simp [e])
      replace a4 := cell_set (g := PB) (i := 1) (v := .bool false) (cell_set (g := PB) (i := 0) (v := .bool false) (hcf.cell a4 nBP) nBB) nBB
      replace a1 := hcf.cell a1 nBP
      replace a0 := hcf.cell a0 nBP
      have NBG := Lib.hid nBG
      have HKN : Hid (kl.length ≤ 1000) := Nat.le_trans HX.out.kn (by decide)
      have HKD : Hid (kl ≠ [] → ∀ b off, ka = some ⟨b, off, none⟩ → b ∉ [gl, gn]) := fun e0 b off e c => HX.out.ka e0 b off e (by simp only [List.mem_cons, List.not_mem_nil, or_false] at c ⊢; rcases c with q | q <;> simp [q])
      have HN := HM3.out.n1
      have HCR := Lib.hid (HR.out.crashed HQ3.out Q1.out kl)
      clear hcf hM2 hpw hlm A1 A2 hC F2 hq2 hf2 KC HKA nBG nBP F1 B1 Q1 M1 P1 hu5 a3
      go_upto_region 42 with fail
      generalize (w2.setCell ⟨PB, 0, none⟩ (.bool false)).setCell ⟨PB, 1, none⟩ (.bool false) = U at *
      clear c0 d1 cf a0 a1
      have S0 : Hid (CrS U U MB gl gn cl cn sa sc n 0 (kept kl lt nt) lt nt ls) := ⟨by rw [mixT_zero, mixT_zero]; exact HM3.out, Ch.refl _ _⟩
      go_wp2
      go_loopw [15] (fun i wr => ∃ j : Nat, j ≤ n ∧ i = .int .i64 j ∧ Hid (CrS U wr MB gl gn cl cn sa sc n j (kept kl lt nt) lt nt ls)) (fun i _ => n - (intOf i).toNat)
      case atStart => exact ⟨0, Nat.zero_le _, rfl, S0⟩
      case round =>
        obtain ⟨j, hj, rfl, hst⟩ := hrel
        have c1 := hst.out.md.c1
        by_cases hlt : j < n
        · have hj0 : (0 : Int) ≤ (j : Int) := by omega
          have hj1 : (j : Int) < (n : Int) := by omega
          have hn4 : n ≤ 4096 := HQ3.out.n1.2
          have b4 := hst.out.ch.cell a4 NBG.out
          have KH := Lib.hid (refHas_any ka kl kc (j : Int) wr HKN.out (ints_chn HI3.out hst.out.ch HKD.out))
          have hcl := hst.out.md.cp.1
          have hcn := hst.out.md.cp.2
          go_wp2_with fail
          refine KH.out.mono ?_
          rintro x wh ⟨rfl, rfl⟩
          clear KH
          cases hany : (kl.any fun z => z == (j : Int))
          · have hD : Hid (CrD U wr MB gl gn cl cn sa sc n j (kept kl lt nt) lt nt ls) := hst.out.no (by unfold kept; rw [hany]; rfl)
            clear c1 hst b4
            have m0 := hD.out.md.c0
            have m1 := hD.out.md.c1
            have mq := hD.out.md.rl j hlt
            rw [mixT_at] at mq
            have mo := hD.out.md.rn j hlt
            rw [mixT_new] at mo
            have mf := hD.out.md.fn
            have hdr := (Below.refl wr.heap.size wr).drew
            have m0d := keep_cell hdr m0
            have m1d := keep_cell hdr m1
            have mqd := keep_cell hdr mq
            go_upto_region 47 with fail
            go_region_law (fail)
            all_goals
              have HD2 := Lib.hid (hD.out.done hlt)
              clear m0 m1 mq mo mf hdr m0d m1d mqd
              go_wp2
              go_roundw
              case rel => exact ⟨j + 1, by omega, by go_num, HD2⟩
              case measure => simp [intOf]; omega
          · have m0 := hst.out.md.c0
            have m1 := hst.out.md.c1
            have mq := hst.out.md.rn j hlt
            rw [mixT_new, ← (show kept kl lt nt j = nt j by unfold kept; rw [hany]; rfl)] at mq
            have mo := hst.out.md.rl j hlt
            have mf := hst.out.md.fl
            have hdr := (Below.refl wr.heap.size wr).drew
            have m0d := keep_cell hdr m0
            have m1d := keep_cell hdr m1
            have mqd := keep_cell hdr mq
            have hD : Hid (CrD U ((wr.setCell ⟨gl, j, none⟩ (.string (kept kl lt nt j))).drew) MB gl gn cl cn sa sc n j (kept kl lt nt) lt nt ls) := hst.out.yes hlt
            clear c1 b4
            go_upto_region 46 with fail
            go_region_law (fail)
            all_goals
              clear m0 m1 mq mo mf hdr m0d m1d mqd hst
              go_upto_region 47 with fail
              generalize (wr.setCell ⟨gl, j, none⟩ (.string (kept kl lt nt j))).drew = V at *
              have m0 := hD.out.md.c0
              have m1 := hD.out.md.c1
              have mq := hD.out.md.rl j hlt
              rw [mixT_at] at mq
              have mo := hD.out.md.rn j hlt
              rw [mixT_new] at mo
              have mf := hD.out.md.fn
              have hdr := (Below.refl V.heap.size V).drew
              have m0d := keep_cell hdr m0
              have m1d := keep_cell hdr m1
              have mqd := keep_cell hdr mq
              go_region_law (fail)
              all_goals
                have HD2 := Lib.hid (hD.out.done hlt)
                clear m0 m1 mq mo mf hdr m0d m1d mqd
                go_wp2
                go_roundw
                case rel => exact ⟨j + 1, by omega, by go_num, HD2⟩
                case measure => simp [intOf]; omega
        · obtain rfl : j = n := by omega
          have nx := side_ncr HND.out
          have nSm := side_nsm HND.out
          have hE := (hst.out.md.setLoose (sa' := none) (sc' := 0) (ls' := []) (.inl rfl) (fun b off e => by cases e))
          have hC2 : Ch U (wr.setCell ⟨MB, 2, none⟩ (.slice none 0 0)) [gl, gn, MB] := (hst.out.ch.sub (fun k hk => .inl (by simp only [List.mem_cons, List.not_mem_nil, or_false] at hk ⊢; rcases hk with q | q <;> simp [q]))).set (.inl (by simp))
          have HE : Hid (SideP W D P L M j c MB PB gl gn sb (wr.setCell ⟨MB, 2, none⟩ (.slice none 0 0))) :=
            side_done2 (HQ3.out.ch hC2 nx.1) hE HCR.out (HP3.out.ch hC2 nx.2) (HF3.out.trans (hC2.sub (fun k hk => .inl (nSm k hk)))) HND.out HLT.out HSN.out (fun b off e => by cases e)
          have m2 := hst.out.md.c2
          have mf := hst.out.md.fz
          clear hE hC2 nx nSm hst
          go_wp2
          go_ret
          exact ⟨rfl, HE.out⟩
    · have hin : hasB n xn = false := by unfold hasB; simp only [Bool.and_eq_false_iff, decide_eq_false_iff_not]; exact .inr h1
      have h1d : decide (xn < (n : Int)) = false := by rw [decide_eq_false_iff_not]; exact h1
      go_upto_region 2 with fail
      go_quiet (fail)
      have hbd : Below Y.heap.size Y (Y.drewN nq) := below_drewN (Below.refl _ _) nq
      have Q1 := Lib.hid (Q0.out.below hbd)
      have M1 := Lib.hid (M0.out.below hbd)
      have P1 := Lib.hid (P0.out.ch (S := []) (Ch.of_below hbd) (by simp))
      have B1 := Lib.hid (B0.out.trans (hbd.mono B0.out.size))
      replace a0 := keep_cell hbd a0
      replace a1 := keep_cell hbd a1
      replace a3 := keep_cell hbd a3
      replace a4 := keep_cell hbd a4
      clear hbd Q0 M0 P0 B0 m1
      generalize Y.drewN nq = Z at *
      have F1 : Hid (Ch W Z [P, L, M, MB, gl, gn, PB]) := Ch.of_below B1.out
      have HKA : Hid (IntsIn Z ka L kl) := by
        by_cases e0 : kl = []
        · exact .inl e0
        rcases HX.out.ks with e | ⟨b, off, e, hb⟩
        · exact .inl e
        · have hn := HX.out.ka e0 b off e
          exact .inr ⟨b, off, e, fun e2 => hn (by simp [e2]), fun i hi => F1.out.cell (hb i hi) (fun c => hn (List.mem_cons_of_mem _ c))⟩
      have KC := Lib.hid (crash_q Q1.out ka kl kc (by have := HX.out.kn; simp only at this; omega) HX.out.kz HKA.out)
      go_wp2_with fail
      refine KC.out.mono ?_
      rintro x w2 ⟨rfl, hq2, hf2⟩
      have hcf : Ch Z w2 [P, L, M] := Ch.of_fr3 hf2 (by simp)
      have hM2 := side_ch M1.out HND.out HSN.out HSA.out hcf
      have hP2 := side_pw P1.out HND.out hcf
      obtain ⟨⟨lm, hpw, hlm⟩, hu5⟩ := hP2
      have A1 := hpw.setOff false
      have A2 := A1.setAr false
      have F2 := (F1.out.trans (hcf.sub (fun k hk => .inl (by simp only [List.mem_cons, List.not_mem_nil, or_false] at hk ⊢; rcases hk with q | q | q <;> simp [q]))))
      have hC := ((Ch.refl w2 [PB]).set (g := PB) (i := 0) (v := .bool false) (.inl (by simp))).set (g := PB) (i := 1) (v := .bool false) (.inl (by simp))
      have HQ3 := Lib.hid (hq2.ch hC (side_npb HND.out).1)
      have HM3 := Lib.hid (hM2.ch hC (side_npb HND.out).2 (fun b off e => by
        have := HSN.out b (HSA.out b off e)
        simp only [List.mem_cons, List.not_mem_nil, or_false, not_or] at this ⊢
        exact this.2.2.2.2.2.2.2))
      have HP3 : Hid (PwR ((w2.setCell ⟨PB, 0, none⟩ (.bool false)).setCell ⟨PB, 1, none⟩ (.bool false)) PB c p.crash) := ⟨⟨lm, A2, fun e => by (cases e), hlm.2⟩, hu5⟩
      have HF3 : Hid (Ch W ((w2.setCell ⟨PB, 0, none⟩ (.bool false)).setCell ⟨PB, 1, none⟩ (.bool false)) [P, L, M, MB, gl, gn, PB]) := F2.trans (hC.sub (fun k hk => .inl (by simp only [List.mem_cons, List.not_mem_nil, or_false] at hk ⊢; simp [hk])))
      have HI3 : Hid (IntsAt ((w2.setCell ⟨PB, 0, none⟩ (.bool false)).setCell ⟨PB, 1, none⟩ (.bool false)) ka kl) := ints_chn HX.out.ks HF3.out (fun e0 b off e c => HX.out.ka e0 b off e (List.mem_cons_of_mem _ c))
      have c0 := hpw.c0
      have d1 := A1.c1
      have cf := hpw.fz
      have nBP : W.heap.size ∉ [P, L, M] := fun c => BXB.out (by simp only [List.mem_cons, List.not_mem_nil, or_false] at c ⊢; rcases c with q | q | q <;> simp [q])
      have nBG : W.heap.size ∉ [gl, gn] := fun c => BXB.out (by simp only [List.mem_cons, List.not_mem_nil, or_false] at c ⊢; rcases c with q | q <;> simp [q])
      have nBB : W.heap.size ≠ PB := fun e => BXB.out (by simp [e])
      replace a4 := cell_set (g := PB) (i := 1) (v := .bool false) (cell_set (g := PB) (i := 0) (v := .bool false) (hcf.cell a4 nBP) nBB) nBB
      replace a1 := hcf.cell a1 nBP
      replace a0 := hcf.cell a0 nBP
      have NBG := Lib.hid nBG
      have HKN : Hid (kl.length ≤ 1000) := Nat.le_trans HX.out.kn (by decide)
      have HKD : Hid (kl ≠ [] → ∀ b off, ka = some ⟨b, off, none⟩ → b ∉ [gl, gn]) := fun e0 b off e c => HX.out.ka e0 b off e (by simp only [List.mem_cons, List.not_mem_nil, or_false] at c ⊢; rcases c with q | q <;> simp [q])
      have HN := HM3.out.n1
      have HCR := Lib.hid (HR.out.crashed HQ3.out Q1.out kl)
      clear hcf hM2 hpw hlm A1 A2 hC F2 hq2 hf2 KC HKA nBG nBP F1 B1 Q1 M1 P1 hu5 a3
      go_upto_region 42 with fail
      generalize (w2.setCell ⟨PB, 0, none⟩ (.bool false)).setCell ⟨PB, 1, none⟩ (.bool false) = U at *
      clear c0 d1 cf a0 a1
      have S0 : Hid (CrS U U MB gl gn cl cn sa sc n 0 (kept kl lt nt) lt nt ls) := ⟨by rw [mixT_zero, mixT_zero]; exact HM3.out, Ch.refl _ _⟩
      go_wp2
      go_loopw [15] (fun i wr => ∃ j : Nat, j ≤ n ∧ i = .int .i64 j ∧ Hid (CrS U wr MB gl gn cl cn sa sc n j (kept kl lt nt) lt nt ls)) (fun i _ => n - (intOf i).toNat)
      case atStart => exact ⟨0, Nat.zero_le _, rfl, S0⟩
      case round =>
        obtain ⟨j, hj, rfl, hst⟩ := hrel
        have c1 := hst.out.md.c1
        by_cases hlt : j < n
        · have hj0 : (0 : Int) ≤ (j : Int) := by omega
          have hj1 : (j : Int) < (n : Int) := by omega
          have hn4 : n ≤ 4096 := HQ3.out.n1.2
          have b4 := hst.out.ch.cell a4 NBG.out
          have KH := Lib.hid (refHas_any ka kl kc (j : Int) wr HKN.out (ints_chn HI3.out hst.out.ch HKD.out))
          have hcl := hst.out.md.cp.1
          have hcn := hst.out.md.cp.2
          go_wp2_with fail
          refine KH.out.mono ?_
          rintro x wh ⟨rfl, rfl⟩
          clear KH
          cases hany : (kl.any fun z => z == (j : Int))
          · have hD : Hid (CrD U wr MB gl gn cl cn sa sc n j (kept kl lt nt) lt nt ls) := hst.out.no (by unfold kept; rw [hany]; rfl)
            clear c1 hst b4
            have m0 := hD.out.md.c0
            have m1 := hD.out.md.c1
            have mq := hD.out.md.rl j hlt
            rw [mixT_at] at mq
            have mo := hD.out.md.rn j hlt
            rw [mixT_new] at mo
            have mf := hD.out.md.fn
            have hdr := (Below.refl wr.heap.size wr).drew
            have m0d := keep_cell hdr m0
            have m1d := keep_cell hdr m1
            have mqd := keep_cell hdr mq
            go_upto_region 47 with fail
            go_region_law (fail)
            all_goals
              have HD2 := Lib.hid (hD.out.done hlt)
              clear m0 m1 mq mo mf hdr m0d m1d mqd
              go_wp2
              go_roundw
              case rel => exact ⟨j + 1, by omega, by go_num, HD2⟩
              case measure => simp [intOf]; omega
          · have m0 := hst.out.md.c0
            have m1 := hst.out.md.c1
            have mq := hst.out.md.rn j hlt
            rw [mixT_new, ← (show kept kl lt nt j = nt j by unfold kept; rw [hany]; rfl)] at mq
            have mo := hst.out.md.rl j hlt
            have mf := hst.out.md.fl
            have hdr := (Below.refl wr.heap.size wr).drew
            have m0d := keep_cell hdr m0
            have m1d := keep_cell hdr m1
            have mqd := keep_cell hdr mq
            have hD : Hid (CrD U ((wr.setCell ⟨gl, j, none⟩ (.string (kept kl lt nt j))).drew) MB gl gn cl cn sa sc n j (kept kl lt nt) lt nt ls) := hst.out.yes hlt
            clear c1 b4
            go_upto_region 46 with fail
            go_region_law (fail)
            all_goals
              clear m0 m1 mq mo mf hdr m0d m1d mqd hst
              go_upto_region 47 with fail
              generalize (wr.setCell ⟨gl, j, none⟩ (.string (kept kl lt nt j))).drew = V at *
              have m0 := hD.out.md.c0
              have m1 := hD.out.md.c1
              have mq := hD.out.md.rl j hlt
              rw [mixT_at] at mq
              have mo := hD.out.md.rn j hlt
              rw [mixT_new] at mo
              have mf := hD.out.md.fn
              have hdr := (Below.refl V.heap.size V).drew
              have m0d := keep_cell hdr m0
              have m1d := keep_cell hdr m1
              have mqd := keep_cell hdr mq
              go_region_law (fail)
              all_goals
                have HD2 := Lib.hid (hD.out.done hlt)
                clear m0 m1 mq mo mf hdr m0d m1d mqd
                go_wp2
                go_roundw
                case rel => exact ⟨j + 1, by omega, by go_num, HD2⟩
                case measure => simp [intOf]; omega
        · obtain rfl : j = n := by omega
          have nx := side_ncr HND.out
          have nSm := side_nsm HND.out
          have hE := (hst.out.md.setLoose (sa' := none) (sc' := 0) (ls' := []) (.inl rfl) (fun b off e => by cases e))
          have hC2 : Ch U (wr.setCell ⟨MB, 2, none⟩ (.slice none 0 0)) [gl, gn, MB] := (hst.out.ch.sub (fun k hk => .inl (by simp only [List.mem_cons, List.not_mem_nil, or_false] at hk ⊢; rcases hk with q | q <;> simp [q]))).set (.inl (by simp))
          have HE : Hid (SideP W D P L M j c MB PB gl gn sb (wr.setCell ⟨MB, 2, none⟩ (.slice none 0 0))) :=
            side_done2 (HQ3.out.ch hC2 nx.1) hE HCR.out (HP3.out.ch hC2 nx.2) (HF3.out.trans (hC2.sub (fun k hk => .inl (nSm k hk)))) HND.out HLT.out HSN.out (fun b off e => by cases e)
          have m2 := hst.out.md.c2
          have mf := hst.out.md.fz
          clear hE hC2 nx nSm hst
          go_wp2
          go_ret
          exact ⟨rfl, HE.out⟩
  · have h0d : decide (0 ≤ xn) = false := by rw [decide_eq_false_iff_not]; exact h0
    have h0n : xn < 0 := by omega
    have hin : hasB n xn = false := by unfold hasB; simp only [Bool.and_eq_false_iff, decide_eq_false_iff_not]; exact .inl h0
    go_upto_region 2 with fail
    go_quiet (fail)
    have hbd : Below Y.heap.size Y (Y.drewN nq) := below_drewN (Below.refl _ _) nq
    have Q1 := Lib.hid (Q0.out.below hbd)
    have M1 := Lib.hid (M0.out.below hbd)
    have P1 := Lib.hid (P0.out.ch (S := []) (Ch.of_below hbd) (by simp))
    have B1 := Lib.hid (B0.out.trans (hbd.mono B0.out.size))
    replace a0 := keep_cell hbd a0
    replace a1 := keep_cell hbd a1
    replace a3 := keep_cell hbd a3
    replace a4 := keep_cell hbd a4
    clear hbd Q0 M0 P0 B0 m1
    generalize Y.drewN nq = Z at *
    have F1 : Hid (Ch W Z [P, L, M, MB, gl, gn, PB]) := Ch.of_below B1.out
    have HKA : Hid (IntsIn Z ka L kl) := by
      by_cases e0 : kl = []
      · exact .inl e0
      rcases HX.out.ks with e | ⟨b, off, e, hb⟩
      · exact .inl e
      · have hn := HX.out.ka e0 b off e
        exact .inr ⟨b, off, e, fun e2 => hn (by simp [e2]), fun i hi => F1.out.cell (hb i hi) (fun c => hn (List.mem_cons_of_mem _ c))⟩
    have KC := Lib.hid (crash_q Q1.out ka kl kc (by have := HX.out.kn; simp only at this; omega) HX.out.kz HKA.out)
    go_wp2_with fail
    refine KC.out.mono ?_
    rintro x w2 ⟨rfl, hq2, hf2⟩
    have hcf : Ch Z w2 [P, L, M] := Ch.of_fr3 hf2 (by simp)
    have hM2 := side_ch M1.out HND.out HSN.out HSA.out hcf
    have hP2 := side_pw P1.out HND.out hcf
    obtain ⟨⟨lm, hpw, hlm⟩, hu5⟩ := hP2
    have A1 := hpw.setOff false
    have A2 := A1.setAr false
    have F2 := (F1.out.trans (hcf.sub (fun k hk => .inl (by simp only [List.mem_cons, List.not_mem_nil, or_false] at hk ⊢; rcases hk with q | q | q <;> simp [q]))))
    have hC := ((Ch.refl w2 [PB]).set (g := PB) (i := 0) (v := .bool false) (.inl (by simp))).set (g := PB) (i := 1) (v := .bool false) (.inl (by simp))
    have HQ3 := Lib.hid (hq2.ch hC (side_npb HND.out).1)
    have HM3 := Lib.hid (hM2.ch hC (side_npb HND.out).2 (fun b off e => by
      have := HSN.out b (HSA.out b off e)
      simp only [List.mem_cons, List.not_mem_nil, or_false, not_or] at this ⊢
      exact this.2.2.2.2.2.2.2))
    have HP3 : Hid (PwR ((w2.setCell ⟨PB, 0, none⟩ (.bool false)).setCell ⟨PB, 1, none⟩ (.bool false)) PB c p.crash) := ⟨⟨lm, A2, fun e => by (cases e), hlm.2⟩, hu5⟩
    have HF3 : Hid (Ch W ((w2.setCell ⟨PB, 0, none⟩ (.bool false)).setCell ⟨PB, 1, none⟩ (.bool false)) [P, L, M, MB, gl, gn, PB]) := F2.trans (hC.sub (fun k hk => .inl (by simp only [List.mem_cons, List.not_mem_nil, or_false] at hk ⊢; simp [hk])))
    have HI3 : Hid (IntsAt ((w2.setCell ⟨PB, 0, none⟩ (.bool false)).setCell ⟨PB, 1, none⟩ (.bool false)) ka kl) := ints_chn HX.out.ks HF3.out (fun e0 b off e c => HX.out.ka e0 b off e (List.mem_cons_of_mem _ c))
    have c0 := hpw.c0
    have d1 := A1.c1
    have cf := hpw.fz
    have nBP : W.heap.size ∉ [P, L, M] := fun c => BXB.out (by simp only [List.mem_cons, List.not_mem_nil, or_false] at c ⊢; rcases c with q | q | q <;> simp [q])
    have nBG : W.heap.size ∉ [gl, gn] := fun c => BXB.out (by simp only [List.mem_cons, List.not_mem_nil, or_false] at c ⊢; rcases c with q | q <;> simp [q])
    have nBB : W.heap.size ≠ PB := fun e => BXB.out (by simp [e])
    replace a4 := cell_set (g := PB) (i := 1) (v := .bool false) (cell_set (g := PB) (i := 0) (v := .bool false) (hcf.cell a4 nBP) nBB) nBB
    replace a1 := hcf.cell a1 nBP
    replace a0 := hcf.cell a0 nBP
    have NBG := Lib.hid nBG
    have HKN : Hid (kl.length ≤ 1000) := Nat.le_trans HX.out.kn (by decide)
    have HKD : Hid (kl ≠ [] → ∀ b off, ka = some ⟨b, off, none⟩ → b ∉ [gl, gn]) := fun e0 b off e c => HX.out.ka e0 b off e (by simp only [List.mem_cons, List.not_mem_nil, or_false] at c ⊢; rcases c with q | q <;> simp [q])
    have HN := HM3.out.n1
    have HCR := Lib.hid (HR.out.crashed HQ3.out Q1.out kl)
    clear hcf hM2 hpw hlm A1 A2 hC F2 hq2 hf2 KC HKA nBG nBP F1 B1 Q1 M1 P1 hu5 a3
    go_upto_region 42 with fail
    generalize (w2.setCell ⟨PB, 0, none⟩ (.bool false)).setCell ⟨PB, 1, none⟩ (.bool false) = U at *
    clear c0 d1 cf a0 a1
    have S0 : Hid (CrS U U MB gl gn cl cn sa sc n 0 (kept kl lt nt) lt nt ls) := ⟨by rw [mixT_zero, mixT_zero]; exact HM3.out, Ch.refl _ _⟩
    go_wp2
    go_loopw [15] (fun i wr => ∃ j : Nat, j ≤ n ∧ i = .int .i64 j ∧ Hid (CrS U wr MB gl gn cl cn sa sc n j (kept kl lt nt) lt nt ls)) (fun i _ => n - (intOf i).toNat)
    case atStart => exact ⟨0, Nat.zero_le _, rfl, S0⟩
    case round =>
      obtain ⟨j, hj, rfl, hst⟩ := hrel
      have c1 := hst.out.md.c1
      by_cases hlt : j < n
      · have hj0 : (0 : Int) ≤ (j : Int) := by omega
        have hj1 : (j : Int) < (n : Int) := by omega
        have hn4 : n ≤ 4096 := HQ3.out.n1.2
        have b4 := hst.out.ch.cell a4 NBG.out
        have KH := Lib.hid (refHas_any ka kl kc (j : Int) wr HKN.out (ints_chn HI3.out hst.out.ch HKD.out))
        have hcl := hst.out.md.cp.1
        have hcn := hst.out.md.cp.2
        go_wp2_with fail
        refine KH.out.mono ?_
        rintro x wh ⟨rfl, rfl⟩
        clear KH
        cases hany : (kl.any fun z => z == (j : Int))
        · have hD : Hid (CrD U wr MB gl gn cl cn sa sc n j (kept kl lt nt) lt nt ls) := hst.out.no (by unfold kept; rw [hany]; rfl)
          clear c1 hst b4
          have m0 := hD.out.md.c0
          have m1 := hD.out.md.c1
          have mq := hD.out.md.rl j hlt
          rw [mixT_at] at mq
          have mo := hD.out.md.rn j hlt
          rw [mixT_new] at mo
          have mf := hD.out.md.fn
          have hdr := (Below.refl wr.heap.size wr).drew
          have m0d := keep_cell hdr m0
          have m1d := keep_cell hdr m1
          have mqd := keep_cell hdr mq
          go_upto_region 47 with fail
          go_region_law (fail)
          all_goals
            have HD2 := Lib.hid (hD.out.done hlt)
            clear m0 m1 mq mo mf hdr m0d m1d mqd
            go_wp2
            go_roundw
            case rel => exact ⟨j + 1, by omega, by go_num, HD2⟩
            case measure => simp [intOf]; omega
        · have m0 := hst.out.md.c0
          have m1 := hst.out.md.c1
          have mq := hst.out.md.rn j hlt
          rw [mixT_new, ← (show kept kl lt nt j = nt j by unfold kept; rw [hany]; rfl)] at mq
          have mo := hst.out.md.rl j hlt
          have mf := hst.out.md.fl
          have hdr := (Below.refl wr.heap.size wr).drew
          have m0d := keep_cell hdr m0
          have m1d := keep_cell hdr m1
          have mqd := keep_cell hdr mq
          have hD : Hid (CrD U ((wr.setCell ⟨gl, j, none⟩ (.string (kept kl lt nt j))).drew) MB gl gn cl cn sa sc n j (kept kl lt nt) lt nt ls) := hst.out.yes hlt
          clear c1 b4
          go_upto_region 46 with fail
          go_region_law (fail)
          all_goals
            clear m0 m1 mq mo mf hdr m0d m1d mqd hst
            go_upto_region 47 with fail
            generalize (wr.setCell ⟨gl, j, none⟩ (.string (kept kl lt nt j))).drew = V at *
            have m0 := hD.out.md.c0
            have m1 := hD.out.md.c1
            have mq := hD.out.md.rl j hlt
            rw [mixT_at] at mq
            have mo := hD.out.md.rn j hlt
            rw [mixT_new] at mo
            have mf := hD.out.md.fn
            have hdr := (Below.refl V.heap.size V).drew
            have m0d := keep_cell hdr m0
            have m1d := keep_cell hdr m1
            have mqd := keep_cell hdr mq
            go_region_law (fail)
            all_goals
              have HD2 := Lib.hid (hD.out.done hlt)
              clear m0 m1 mq mo mf hdr m0d m1d mqd
              go_wp2
              go_roundw
              case rel => exact ⟨j + 1, by omega, by go_num, HD2⟩
              case measure => simp [intOf]; omega
      · obtain rfl : j = n := by omega
        have nx := side_ncr HND.out
        have nSm := side_nsm HND.out
        have hE := (hst.out.md.setLoose (sa' := none) (sc' := 0) (ls' := []) (.inl rfl) (fun b off e => by cases e))
        have hC2 : Ch U (wr.setCell ⟨MB, 2, none⟩ (.slice none 0 0)) [gl, gn, MB] := (hst.out.ch.sub (fun k hk => .inl (by simp only [List.mem_cons, List.not_mem_nil, or_false] at hk ⊢; rcases hk with q | q <;> simp [q]))).set (.inl (by simp))
        have HE : Hid (SideP W D P L M j c MB PB gl gn sb (wr.setCell ⟨MB, 2, none⟩ (.slice none 0 0))) :=
          side_done2 (HQ3.out.ch hC2 nx.1) hE HCR.out (HP3.out.ch hC2 nx.2) (HF3.out.trans (hC2.sub (fun k hk => .inl (nSm k hk)))) HND.out HLT.out HSN.out (fun b off e => by cases e)
        have m2 := hst.out.md.c2
        have mf := hst.out.md.fz
        clear hE hC2 nx nSm hst
        go_wp2
        go_ret
        exact ⟨rfl, HE.out⟩
end
end Go.Proofs.Ytobgopiadfinbaa
