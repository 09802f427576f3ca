/-
  LAW 05's does: a Write.
-/
import Derived.Test.YtobgopiadfinbaaDpSide
import Derived.Test.YtobgopiadfinbaaDvActs
import Derived.Deep.RegionLaw
import Derived.Deep.RegionHeld3
import Derived.Deep.RegionLawGrows
import Derived.StillTailTactics
import Derived.BigRegion
import Derived.Deep.Cut
import Derived.Deep.CutRange
import Derived.Deep.DeepCutAuto
import Derived.Deep.CutBlock
import Derived.BigQuiet
import Derived.WalkSpells
namespace Go.Proofs.Ytobgopiadfinbaa
open Go.RowKit
/-- A device and its model, side by side. -/
structure Side (W : World) (D P L M n c MB PB : Nat) (p : Pn) (gl gn : Nat) (sb : Option Nat) : Prop where
  ex : ∃ las f cl cn sa sc lt nt ls, DQ W D P L M n c p las f ∧ MdAt W MB gl gn cl cn sa sc n lt nt ls ∧ CR n las f lt nt ls ∧ ∀ b off, sa = some ⟨b, off, none⟩ → sb = some b
  pw : PwR W PB c p
  nd : [D, P, L, M, MB, gl, gn, PB].Nodup
  sn : ∀ b, sb = some b → b ∉ [D, P, L, M, MB, gl, gn, PB]
/-- What an act leaves. -/
def DoP (W : World) (D P L M n c MB PB : Nat) (gl gn : Nat) (sb : Option Nat) (x : Ending) (w' : World) : Prop :=
  x = .returned (.bool true) ∧ ∃ p' gl' sb', Side w' D P L M n (c + 1) MB PB p' gl' gn sb' ∧ Ch W w' [P, L, M, MB, gl, gn, PB] ∧ (gl' = gl ∨ W.heap.size ≤ gl') ∧ ∀ b, sb' = some b → sb = some b ∨ W.heap.size ≤ b
theorem ch_drew (W : World) (k : Nat) : Below W.heap.size W (W.drewN k) := ⟨rfl, rfl, rfl, Nat.le_refl _, fun _ _ => rfl⟩
section
variable {W X : World} {D P L M n c MB PB gl gn : Nat} {p : Pn} {sb : Option Nat} {las : List (List UInt8)} {f : Int → Option (List UInt8)}
theorem DevAt.ch {k : Nat} {off ar : Bool} {u lf : Int} {S : List Nat} (h : DevAt W D P L M n k off u ar lf las f) (hc : Ch W X S) (hS : D ∉ S ∧ P ∉ S ∧ L ∉ S ∧ M ∉ S) : DevAt X D P L M n k off u ar lf las f := by
  have b : ∀ g, g < W.heap.size → g ∉ S → X.heap[g]? = W.heap[g]? := fun g hg hn => hc.block g hg hn
  obtain ⟨D0, ⟨es, clock, hbM, F, hs, hD⟩, h5⟩ := h.mp
  exact h.blocks (b D (block_lt (p := ⟨D, 0, none⟩) h.d0) hS.1) (b P (block_lt (p := ⟨P, 0, none⟩) h.p0) hS.2.1) (b L (blk_lt h.lb) hS.2.2.1) (b M (blk_lt hbM) hS.2.2.2)
theorem DQ.ch {S : List Nat} (h : DQ W D P L M n c p las f) (hc : Ch W X S) (hS : D ∉ S ∧ P ∉ S ∧ L ∉ S ∧ M ∉ S) : DQ X D P L M n c p las f := by
  obtain ⟨⟨k, hk, h1⟩, h2, h3, h4, h5⟩ := h
  exact ⟨⟨k, hk, h1.ch hc hS⟩, h2, h3, h4, h5⟩
theorem strs_ch {a : Option Addr} {l : List ByteArray} {S : List Nat} (h : StrsAt W a l) (hc : Ch W X S) (hs : ∀ b off, a = some ⟨b, off, none⟩ → b ∉ S) : StrsAt X a l := by
  rcases h with h | ⟨b, off, e, h⟩
  · exact .inl h
  · exact .inr ⟨b, off, e, fun i hi => hc.cell (h i hi) (hs b off e)⟩
end
theorem strs_chn {W X : World} {a : Option Addr} {l : List ByteArray} {S : List Nat} (h : StrsAt W a l) (hc : Ch W X S) (hs : l ≠ [] → ∀ b off, a = some ⟨b, off, none⟩ → b ∉ S) : StrsAt X a l := by
  by_cases e : l = []
  · exact .inl e
  · exact strs_ch h hc (hs e)
theorem ints_chn {W X : World} {a : Option Addr} {l : List Int} {S : List Nat} (h : IntsAt W a l) (hc : Ch W X S) (hs : l ≠ [] → ∀ b off, a = some ⟨b, off, none⟩ → b ∉ S) : IntsAt X a l := by
  by_cases e : l = []
  · exact .inl e
  · exact ints_ch h hc (hs e)
theorem row_form {W : World} {B : Nat} {v : Value} {l : List Int} (h : W.ownsRow B 3 1 v l.length (ints l)) : ∃ a c, v = .slice a l.length c ∧ IntsAt W a l ∧ ∀ b off, a = some ⟨b, off, none⟩ → B ≤ b ∧ b < W.heap.size := by
  rcases h.2 with ⟨e, hz⟩ | ⟨g, cap, cur, e, hb, hg, _⟩
  · subst e
    have : l = [] := List.length_eq_zero_iff.1 hz
    subst this
    exact ⟨none, 0, rfl, .inl rfl, fun _ _ e => by cases e⟩
  · subst e
    refine ⟨_, cap, rfl, .inr ⟨g, 0, rfl, fun i hi => ?_⟩, fun b off e => by injection e with e; injection e with e _; have := (Array.getElem?_eq_some_iff.1 hg).1; omega⟩
    have := World.ownsRow.cells h rfl i (.int .i64 (l.getD i 0)) (by
      unfold ints
      rw [List.getElem?_map, List.getElem?_eq_getElem hi, List.getD_eq_getElem?_getD, List.getElem?_eq_getElem hi]; rfl)
    have e2 : (⟨g, 0, none⟩ : Addr).add i = ⟨g, 0 + i, none⟩ := by unfold Addr.add; split <;> simp_all
    rw [e2] at this
    exact this
/-- The block of a row of numbers. -/
def sblk : Option Addr → Option Nat
  | some ⟨b, _, none⟩ => some b
  | _ => none
theorem sblk_some {sa : Option Addr} {b : Nat} (h : sblk sa = some b) : ∃ off, sa = some ⟨b, off, none⟩ := by
  match sa, h with
  | some ⟨b', off, none⟩, h =>
    have e : b' = b := Option.some.inj h
    exact ⟨off, by rw [e]⟩
section
variable {W w2 w3 : World} {D P L M n c MB PB gl gn cl cn : Nat} {p' : Pn} {sb : Option Nat} {las' : List (List UInt8)} {f' : Int → Option (List UInt8)} {sa : Option Addr} {sc : Nat} {lt nt : Nat → ByteArray} {ls : List Int}
/-- Behind the device's own call. -/
theorem side_done (hQ3 : DQ w3 D P L M n (c + 1) p' las' f') (hM : MdAt w2 MB gl gn cl cn sa sc n lt nt ls) (hR : CR n las' f' lt nt ls) (hP : PwR w2 PB (c + 1) p') (hf : Fr3 P L M w2 w3) (hch : Ch W w2 [P, L, M, MB, gl, gn, PB])
    (hnd : [D, P, L, M, MB, gl, gn, PB].Nodup) (hW : ∀ k ∈ [D, P, L, M, MB, gl, gn, PB], k < W.heap.size) (hsn : ∀ b, sb = some b → b ∉ [D, P, L, M, MB, gl, gn, PB]) (hsa : ∀ b off, sa = some ⟨b, off, none⟩ → sb = some b ∨ W.heap.size ≤ b) :
    ∃ p'' gl' sb', Side w3 D P L M n (c + 1) MB PB p'' gl' gn sb' ∧ Ch W w3 [P, L, M, MB, gl, gn, PB] ∧ (gl' = gl ∨ W.heap.size ≤ gl') ∧ ∀ b, sb' = some b → sb = some b ∨ W.heap.size ≤ b := by
  have hcf : Ch w2 w3 [P, L, M] := Ch.of_fr3 hf (by simp)
  have hbn : ∀ b off, sa = some ⟨b, off, none⟩ → b ∉ [D, P, L, M, MB, gl, gn, PB] := fun b off e => by
    rcases hsa b off e with q | q
    · exact hsn b q
    · intro c
      have := hW b c
      omega
  have nd := hnd
  simp only [List.nodup_cons, List.mem_cons, List.not_mem_nil, or_false, not_or, List.nodup_nil, and_true] at nd
  obtain ⟨_, ⟨n1, n2, n3, n4, n5, n6⟩, ⟨n7, n8, n9, n10, n11⟩, ⟨n12, n13, n14, n15⟩, _⟩ := nd
  refine ⟨p', gl, sblk sa, ⟨⟨las', f', cl, cn, sa, sc, lt, nt, ls, hQ3, hM.ch hcf ⟨?_, ?_, ?_⟩ ?_, hR, fun b off e => by rw [e]; rfl⟩, hP.ch hcf ?_, hnd, ?_⟩, ?_, .inl rfl, ?_⟩
  · simp only [List.mem_cons, List.not_mem_nil, or_false, not_or]; exact ⟨fun e => n3 e.symm, fun e => n8 e.symm, fun e => n12 e.symm⟩
  · simp only [List.mem_cons, List.not_mem_nil, or_false, not_or]; exact ⟨fun e => n4 e.symm, fun e => n9 e.symm, fun e => n13 e.symm⟩
  · simp only [List.mem_cons, List.not_mem_nil, or_false, not_or]; exact ⟨fun e => n5 e.symm, fun e => n10 e.symm, fun e => n14 e.symm⟩
  · intro b off e
    have := hbn b off e
    simp only [List.mem_cons, List.not_mem_nil, or_false, not_or] at this ⊢
    exact ⟨this.2.1, this.2.2.1, this.2.2.2.1⟩
  · simp only [List.mem_cons, List.not_mem_nil, or_false, not_or]; exact ⟨fun e => n6 e.symm, fun e => n11 e.symm, fun e => n15 e.symm⟩
  · intro b e
    obtain ⟨off, e2⟩ := sblk_some e
    exact hbn b off e2
  · exact hch.trans (hcf.sub (fun k hk => .inl (by simp only [List.mem_cons, List.not_mem_nil, or_false] at hk ⊢; rcases hk with q | q | q <;> simp [q])))
  · intro b e
    obtain ⟨off, e2⟩ := sblk_some e
    exact hsa b off e2
end
/-- An act's arguments, told apart from what a side holds. -/
structure ArgOk (W : World) (x : Da) (S : List Nat) : Prop where
  n : (Lit.int .i64 x.n).wf = true
  ds : StrsAt W x.da x.dl
  dz : ∀ s ∈ x.dl, s.size ≤ 140737488351232
  dn : x.dl.length ≤ 6
  jn : (joined x.dl).length ≤ 200
  ks : IntsAt W x.ka x.kl
  kz : ∀ z ∈ x.kl, (Lit.int .i64 z).wf = true
  kn : x.kl.length ≤ 40
  da : x.dl ≠ [] → ∀ b off, x.da = some ⟨b, off, none⟩ → b ∉ S
  ka : x.kl ≠ [] → ∀ b off, x.ka = some ⟨b, off, none⟩ → b ∉ S
theorem strs_len {W : World} {x : Da} {S : List Nat} (h : ArgOk W x S) : ∀ i, (x.dl.getD i ByteArray.empty).size ≤ 140737488355328 := fun i => by
  rw [List.getD_eq_getElem?_getD]
  by_cases hi : i < x.dl.length
  · rw [List.getElem?_eq_getElem hi]
    have := h.dz _ (List.getElem_mem hi)
    simp only [Option.getD_some]
    omega
  · rw [List.getElem?_eq_none (by omega)]
    have e : ByteArray.empty.size = 0 := rfl
    rw [Option.getD_none, e]
    exact Nat.zero_le _
theorem strs_use {W w2 : World} {x : Da} {D P L M MB gl gn PB : Nat} (hc : Ch W w2 [P, L, M, MB, gl, gn, PB]) (h : ArgOk W x [D, P, L, M, MB, gl, gn, PB]) (_hn : [D, P, L, M, MB, gl, gn, PB].Nodup) (u : Int) (a : Bool) (l : Int) : StrsAt (useW P u a l w2) x.da x.dl := by
  have hne : x.dl ≠ [] → ∀ b off, x.da = some ⟨b, off, none⟩ → b ∉ [P, L, M, MB, gl, gn, PB] := fun e0 b off e c => h.da e0 b off e (List.mem_cons_of_mem _ c)
  have hu : Ch W (useW P u a l w2) [P, L, M, MB, gl, gn, PB] := by
    refine hc.trans (Ch.of_fr3 (P := P) (L := L) (M := M) (useW_fr w2 u a l) ⟨by simp, by simp, by simp⟩)
  exact strs_chn h.ds hu hne
section
variable {W : World} {D P L M n c MB PB gl gn : Nat} {p : Pn} {sb : Option Nat}
set_option maxRecDepth 100000 in
set_option maxHeartbeats 4000000 in
theorem does_write (h : Side W D P L M n c MB PB p gl gn sb) (hc : c ≤ 900) (x : Da) (hx : ArgOk W x [D, P, L, M, MB, gl, gn, PB]) (hk : x.k = 0) :
    Calls Try.prog 8 #[.pointer (some ⟨D, 0, none⟩), .pointer (some ⟨MB, 0, none⟩), .pointer (some ⟨PB, 0, none⟩), .agg x.cells] W (DoP W D P L M n c MB PB gl gn sb) := by
  obtain ⟨⟨las, f, cl, cn, sa, sc, lt, nt, ls, hQ, hM, hR, hsa⟩, hW, hnd, hsn⟩ := h
  obtain ⟨xk, xn, xo, da, dl, dc, ka, kl, kc⟩ := x
  simp only at hk
  subst hk
  simp only [Da.cells]
  have hb0 := (Below.refl W.heap.size W).alloc (Nat.le_refl _) (.cells #[.int .i64 0, .int .i64 xn, .bool xo, .slice da dl.length dc, .slice ka kl.length kc] 38)
  have a1 : (W.alloc (.cells #[.int .i64 0, .int .i64 xn, .bool xo, .slice da dl.length dc, .slice ka kl.length kc] 38)).cell? ⟨W.heap.size, 1, none⟩ = some (.int .i64 xn) := new_cell rfl rfl
  have a0 : (W.alloc (.cells #[.int .i64 0, .int .i64 xn, .bool xo, .slice da dl.length dc, .slice ka kl.length kc] 38)).cell? ⟨W.heap.size, 0, none⟩ = some (.int .i64 0) := new_cell rfl rfl
  have a3 : (W.alloc (.cells #[.int .i64 0, .int .i64 xn, .bool xo, .slice da dl.length dc, .slice ka kl.length kc] 38)).cell? ⟨W.heap.size, 3, none⟩ = some (.slice da dl.length dc) := new_cell rfl rfl
  have KJ := Lib.hid (join_any da dl dc _ (by have := hx.dn; simp only at this; omega) (hx.ds.below hb0) hx.dz)
  have Q0 := Lib.hid (hQ.below hb0)
  have M0 := Lib.hid (hM.below hb0)
  have P0 := Lib.hid (hW.ch (S := []) (Ch.of_below hb0) (by simp))
  have B0 := Lib.hid hb0
  have HX := Lib.hid hx
  have HR := Lib.hid hR
  have HND := Lib.hid hnd
  have HSN := Lib.hid hsn
  have HSA := Lib.hid hsa
  have HLT : Hid (∀ k ∈ [D, P, L, M, MB, gl, gn, PB], k < W.heap.size) := by
    obtain ⟨k, _, hd⟩ := hQ.ex
    have h1 : D < W.heap.size := block_lt (p := ⟨D, 0, none⟩) hd.d0
    have h2 : P < W.heap.size := block_lt (p := ⟨P, 0, none⟩) hd.p0
    have h3 := blk_lt hd.lb
    have h4 : M < W.heap.size := by
      obtain ⟨D0, ⟨es, clock, hbM, F, hs, hD⟩, h5⟩ := hd.mp
      exact blk_lt hbM
    have h5 := hM.lts
    obtain ⟨lm, hp, _⟩ := hW.ex
    have h6 := hp.lt
    show ∀ k ∈ _, k < _
    intro k hk
    simp only [List.mem_cons, List.not_mem_nil, or_false] at hk
    rcases hk with rfl | rfl | rfl | rfl | rfl | rfl | rfl | rfl <;> omega
  have BXB : Hid (W.heap.size ∉ [D, P, L, M, MB, gl, gn, PB]) := fun c => Nat.lt_irrefl _ (HLT.out _ c)
  clear hb0 hx hQ hM hW hR hnd hsn hsa
  go_enter Try.func8, Try.ntmps8
  go_upto_region 1 with fail
  generalize W.alloc (.cells #[.int .i64 0, .int .i64 xn, .bool xo, .slice da dl.length dc, .slice ka kl.length kc] 38) = Y at *
  go_wp2_with fail
  refine KJ.out.mono ?_
  rintro x w1 ⟨rfl, rfl⟩
  have m1 := M0.out.c1
  clear KJ
  by_cases h0 : 0 ≤ xn
  · by_cases h1 : xn < (n : Int)
    · have hin : hasB n xn = true := by unfold hasB; simp only [Bool.and_eq_true, decide_eq_true_eq]; exact ⟨h0, h1⟩
      go_upto_region 2 with fail
      go_quiet (fail)
      have hbd : Below Y.heap.size Y (Y.drewN nq) := below_drewN (Below.refl _ _) nq
      have Q1 := Lib.hid (Q0.out.below hbd)
      have M1 := Lib.hid (M0.out.below hbd)
      have P1 := Lib.hid (P0.out.ch (S := []) (Ch.of_below hbd) (by simp))
      have B1 := Lib.hid (B0.out.trans (hbd.mono B0.out.size))
      replace a0 := keep_cell hbd a0
      replace a1 := keep_cell hbd a1
      replace a3 := keep_cell hbd a3
      clear hbd Q0 M0 P0 B0 m1
      generalize Y.drewN nq = Z at *
      have KU := Lib.hid (puse_any P1.out (by omega))
      go_wp2_with fail
      refine KU.out.mono ?_
      rintro x w2 ⟨rfl, hp2, hc2⟩
      have P2 := Lib.hid hp2
      have C2 := Lib.hid hc2
      have nPB : ∀ k, k ∈ [D, P, L, M, MB, gl, gn] → k ∉ [PB] := fun k hk c => by
        have nd := HND.out
        have e : k = PB := by simpa using c
        subst e
        simp only [List.nodup_cons, List.mem_cons, List.not_mem_nil, or_false, not_or, List.nodup_nil, and_true] at nd hk
        obtain ⟨⟨_, _, _, _, _, _, d7⟩, ⟨_, _, _, _, _, p7⟩, ⟨_, _, _, _, l7⟩, ⟨_, _, _, m7⟩, ⟨_, _, b7⟩, ⟨_, g7⟩, g8⟩ := nd
        rcases hk with q | q | q | q | q | q | q
        · exact d7 q.symm
        · exact p7 q.symm
        · exact l7 q.symm
        · exact m7 q.symm
        · exact b7 q.symm
        · exact g7 q.symm
        · exact g8.1 q.symm
      have Q2 := Lib.hid (Q1.out.ch hc2 ⟨nPB D (by simp), nPB P (by simp), nPB L (by simp), nPB M (by simp)⟩)
      have M2 := Lib.hid (M1.out.ch hc2 ⟨nPB MB (by simp), nPB gl (by simp), nPB gn (by simp)⟩ (fun b off e => by
        have := HSN.out b (HSA.out b off e)
        simp only [List.mem_cons, List.not_mem_nil, or_false, not_or] at this ⊢
        exact this.2.2.2.2.2.2.2))
      have nBX : W.heap.size ∉ [PB] := fun c => BXB.out (by simp only [List.mem_cons, List.not_mem_nil, or_false] at c ⊢; simp [c])
      replace a0 := hc2.cell a0 nBX
      replace a1 := hc2.cell a1 nBX
      replace a3 := hc2.cell a3 nBX
      have F2 : Hid (Ch W w2 [P, L, M, MB, gl, gn, PB]) := (Ch.of_below B1.out).trans (hc2.sub (fun k hk => .inl (by simp only [List.mem_cons, List.not_mem_nil, or_false] at hk ⊢; simp [hk])))
      clear hp2 hc2 KU P1 Q1 M1 B1 C2
      cases hu : p.use.1
      · skip
        have KW := write_q Q2.out (by omega) xn da dl dc (by have := HX.out.dn; simp only at this; omega) (fun u a l => strs_use (F2.out) HX.out HND.out u a l) (strs_len HX.out)
        have hE : wrE n p xn (joined dl) = 6 := by unfold wrE; rw [hu]; rfl
        have hF : wrF n p f xn (joined dl) = f := by unfold wrF; rw [hu]; rfl
        unfold WrQ at KW
        rw [hE, hF] at KW
        have KW := Lib.hid KW
        clear hE hF
        go_wp2_with fail
        refine KW.out.mono ?_
        rintro x w3 ⟨rfl, hq3, hf3⟩
        have HD := Lib.hid (side_done hq3 M2.out HR.out P2.out hf3 F2.out HND.out HLT.out HSN.out (fun b off e => .inl (HSA.out b off e)))
        clear hq3 hf3 KW
        go_wp2
        go_ret
        exact ⟨rfl, HD.out⟩
      · have htx : (txt (joined dl)).size = (joined dl).length := txt_size _
        by_cases hl : (joined dl).length ≤ 64
        · have hwk : wrOk n xn (joined dl) = true := by unfold wrOk; rw [hin]; simp [hl]
          obtain ⟨q, rfl⟩ : ∃ q : Nat, xn = (q : Int) := ⟨xn.toNat, by omega⟩
          have hq : q < n := by omega
          have hlg : ¬ (64 : Int) < ((txt (joined dl)).size : Int) := by omega
          have KF := Lib.hid (fun X => fill_any (txt (joined dl)) (by omega) X)
          have hpad : (txt (joined dl)).data.toList = joined dl := by unfold txt; simp
          rw [hpad] at KF
          have m1 := M2.out.c1
          have mq := M2.out.rn q hq
          have mf := M2.out.fn
          have hcn := M2.out.cp.2
          have hw2 := Lib.hid (Below.refl w2.heap.size w2).drew
          clear htx
          go_upto_region 17 with fail
          go_region_law ((first
            | (go_simp; go_at_call 19; (with_reducible refine (KF.out _).mono ?_); rintro x w4 ⟨rfl, hb4⟩; have hb5 := hw2.out.trans (hb4.mono hw2.out.size); have M4 := Lib.hid (M2.out.below hb5); have B4 := Lib.hid hb5; replace a0 := keep_cell hb5 a0; replace a1 := keep_cell hb5 a1; replace a3 := keep_cell hb5 a3; have n1 := M4.out.c1; have nq2 := M4.out.rn q hq; have nf := M4.out.fn; clear hb4 hb5; go_simp)))
          all_goals
            have nd := HND.out
            simp only [List.nodup_cons, List.mem_cons, List.not_mem_nil, or_false, not_or, List.nodup_nil, and_true] at nd
            have nGN : D ≠ gn ∧ P ≠ gn ∧ L ≠ gn ∧ M ≠ gn ∧ MB ≠ gn ∧ PB ≠ gn := by
              obtain ⟨⟨_, _, _, _, _, d6, _⟩, ⟨_, _, _, _, p6, _⟩, ⟨_, _, _, l6, _⟩, ⟨_, _, m6, _⟩, ⟨_, b6, _⟩, _, g8⟩ := nd
              exact ⟨d6, p6, l6, m6, b6, fun e => g8.1 e.symm⟩
            have nMB : D ≠ MB ∧ P ≠ MB ∧ L ≠ MB ∧ M ≠ MB ∧ PB ≠ MB := by
              obtain ⟨⟨_, _, _, d4, _⟩, ⟨_, _, p4, _⟩, ⟨_, l4, _⟩, ⟨m4, _⟩, ⟨_, _, b7⟩, _⟩ := nd
              exact ⟨d4, p4, l4, m4, fun e => b7 e.symm⟩
            clear nd
            have C5 : Ch w2 (w4.setCell ⟨gn, q, none⟩ (.string (txt (pad (joined dl))))) [gn] := (Ch.of_below B4.out).set (.inl (by simp))
            have M5 := Lib.hid (M4.out.setNow hq (txt (pad (joined dl))))
            have Q5 := Lib.hid (Q2.out.ch C5 ⟨by simpa using nGN.1, by simpa using nGN.2.1, by simpa using nGN.2.2.1, by simpa using nGN.2.2.2.1⟩)
            have P5 := Lib.hid (P2.out.ch C5 (by simpa using nGN.2.2.2.2.2))
            have F5 : Hid (Ch W (w4.setCell ⟨gn, q, none⟩ (.string (txt (pad (joined dl))))) [P, L, M, MB, gl, gn, PB]) := F2.out.trans (C5.sub (fun k hk => .inl (by simp only [List.mem_cons, List.not_mem_nil, or_false] at hk ⊢; simp [hk])))
            have nBG : W.heap.size ≠ gn := fun e => BXB.out (by simp [e])
            have nBM : W.heap.size ≠ MB := fun e => BXB.out (by simp [e])
            replace a0 := cell_set (g := gn) (i := q) (v := .string (txt (pad (joined dl)))) a0 nBG
            replace a1 := cell_set (g := gn) (i := q) (v := .string (txt (pad (joined dl)))) a1 nBG
            replace a3 := cell_set (g := gn) (i := q) (v := .string (txt (pad (joined dl)))) a3 nBG
            clear C5 M4 B4 n1 nq2 nf m1 mq mf Q2 M2 P2 F2 KF hw2 hpad hlg
            go_upto_region 18 with fail
            generalize w4.setCell ⟨gn, q, none⟩ (.string (txt (pad (joined dl)))) = V at *
            have m2 := M5.out.c2
            have mz := M5.out.fz
            have KWi := Lib.hid (refWith_any (q : Int) true sa ls sc V.drew (by have := HR.out.len; have := Q5.out.n1.2; omega) M5.out.rs)
            have hw5 := Lib.hid (Below.refl V.heap.size V).drew
            go_region_law ((first
              | (go_simp; go_at_call 20; (with_reducible refine KWi.out.mono ?_); rintro x w6 ⟨v, rfl, hrow, hb6⟩; obtain ⟨sa', sc', rfl, hia, hib⟩ := row_form hrow; have hb7 := hw5.out.trans (hb6.mono hw5.out.size); have M6 := Lib.hid (M5.out.below hb7); have B6 := Lib.hid hb7; have HIA := Lib.hid hia; have HIB := Lib.hid hib; replace a0 := keep_cell hb7 a0; replace a1 := keep_cell hb7 a1; replace a3 := keep_cell hb7 a3; have n2 := M6.out.c2; have nz := M6.out.fz; clear hb6 hb7 hrow hia hib; go_simp)))
            all_goals
              have hVS : W.heap.size ≤ V.heap.size := F5.out.size
              have hML := M5.out.lts
              have C7 : Ch V (w6.setCell ⟨MB, 2, none⟩ (.slice sa' (withL ls (q : Int) true).length sc')) [MB] := (Ch.of_below B6.out).set (.inl (by simp))
              have M7 := Lib.hid (M6.out.setLoose (sc' := sc') HIA.out (fun b off e => by
                have : V.heap.size ≤ b := (HIB.out b off e).1
                exact ⟨by omega, by omega, by omega, (HIB.out b off e).2⟩))
              have Q7 := Lib.hid (Q5.out.ch C7 ⟨by simpa using nMB.1, by simpa using nMB.2.1, by simpa using nMB.2.2.1, by simpa using nMB.2.2.2.1⟩)
              have P7 := Lib.hid (P5.out.ch C7 (by simpa using nMB.2.2.2.2))
              have F7 : Hid (Ch W (w6.setCell ⟨MB, 2, none⟩ (.slice sa' (withL ls (q : Int) true).length sc')) [P, L, M, MB, gl, gn, PB]) := F5.out.trans (C7.sub (fun k hk => .inl (by simp only [List.mem_cons, List.not_mem_nil, or_false] at hk ⊢; simp [hk])))
              have HIS : Hid (∀ b off, sa' = some ⟨b, off, none⟩ → W.heap.size ≤ b) := fun b off e => Nat.le_trans hVS (HIB.out b off e).1
              replace a0 := cell_set (g := MB) (i := 2) (v := .slice sa' (withL ls (q : Int) true).length sc') a0 nBM
              replace a1 := cell_set (g := MB) (i := 2) (v := .slice sa' (withL ls (q : Int) true).length sc') a1 nBM
              replace a3 := cell_set (g := MB) (i := 2) (v := .slice sa' (withL ls (q : Int) true).length sc') a3 nBM
              have HWK := Lib.hid hwk
              clear C7 M6 B6 n2 nz m2 mz M5 Q5 P5 F5 hw5 KWi HIA HIB hVS hML hwk
              go_upto_region 19 with fail
              generalize w6.setCell ⟨MB, 2, none⟩ (.slice sa' (withL ls (q : Int) true).length sc') = U at *
              have KW := write_q Q7.out (by omega) (q : Int) da dl dc (by have := HX.out.dn; simp only at this; omega) (fun u a l => strs_use (F7.out) HX.out HND.out u a l) (strs_len HX.out)
              have hE : wrE n p (q : Int) (joined dl) = 0 := by unfold wrE; rw [hu, HWK.out]; rfl
              have hF : wrF n p f (q : Int) (joined dl) = upd f (q : Int) (some (pad (joined dl))) := by unfold wrF; rw [hu, HWK.out]; rfl
              unfold WrQ at KW
              rw [hE, hF] at KW
              have KW := Lib.hid KW
              clear hE hF
              go_wp2_with fail
              refine KW.out.mono ?_
              rintro x w3 ⟨rfl, hq3, hf3⟩
              have HD := Lib.hid (side_done hq3 M7.out (HR.out.write Q7.out.ok hq (pad (joined dl)) (pad_len hl)) P7.out hf3 F7.out HND.out HLT.out HSN.out (fun b off e => .inr (HIS.out b off e)))
              clear hq3 hf3 KW
              go_wp2
              go_ret
              exact ⟨rfl, HD.out⟩
        · have hwk : wrOk n xn (joined dl) = false := by unfold wrOk; rw [hin]; simp [hl]
          have hlg : (64 : Int) < ((txt (joined dl)).size : Int) := by omega
          clear htx
          have KW := write_q Q2.out (by omega) xn da dl dc (by have := HX.out.dn; simp only at this; omega) (fun u a l => strs_use (F2.out) HX.out HND.out u a l) (strs_len HX.out)
          have hE : wrE n p xn (joined dl) = 1 := by unfold wrE; rw [hu, hwk]; rfl
          have hF : wrF n p f xn (joined dl) = f := by unfold wrF; rw [hu, hwk]; rfl
          unfold WrQ at KW
          rw [hE, hF] at KW
          have KW := Lib.hid KW
          clear hE hF
          go_wp2_with fail
          refine KW.out.mono ?_
          rintro x w3 ⟨rfl, hq3, hf3⟩
          have HD := Lib.hid (side_done hq3 M2.out (HR.out) P2.out hf3 F2.out HND.out HLT.out HSN.out (fun b off e => .inl (HSA.out b off e)))
          clear hq3 hf3 KW
          go_wp2
          go_ret
          exact ⟨rfl, HD.out⟩
    · skip
      have hin : hasB n xn = false := by unfold hasB; simp only [Bool.and_eq_false_iff, decide_eq_false_iff_not]; exact .inr h1
      go_upto_region 2 with fail
      go_quiet (fail)
      have hbd : Below Y.heap.size Y (Y.drewN nq) := below_drewN (Below.refl _ _) nq
      have Q1 := Lib.hid (Q0.out.below hbd)
      have M1 := Lib.hid (M0.out.below hbd)
      have P1 := Lib.hid (P0.out.ch (S := []) (Ch.of_below hbd) (by simp))
      have B1 := Lib.hid (B0.out.trans (hbd.mono B0.out.size))
      replace a0 := keep_cell hbd a0
      replace a1 := keep_cell hbd a1
      replace a3 := keep_cell hbd a3
      clear hbd Q0 M0 P0 B0 m1
      generalize Y.drewN nq = Z at *
      have KU := Lib.hid (puse_any P1.out (by omega))
      go_wp2_with fail
      refine KU.out.mono ?_
      rintro x w2 ⟨rfl, hp2, hc2⟩
      have P2 := Lib.hid hp2
      have C2 := Lib.hid hc2
      have nPB : ∀ k, k ∈ [D, P, L, M, MB, gl, gn] → k ∉ [PB] := fun k hk c => by
        have nd := HND.out
        have e : k = PB := by simpa using c
        subst e
        simp only [List.nodup_cons, List.mem_cons, List.not_mem_nil, or_false, not_or, List.nodup_nil, and_true] at nd hk
        obtain ⟨⟨_, _, _, _, _, _, d7⟩, ⟨_, _, _, _, _, p7⟩, ⟨_, _, _, _, l7⟩, ⟨_, _, _, m7⟩, ⟨_, _, b7⟩, ⟨_, g7⟩, g8⟩ := nd
        rcases hk with q | q | q | q | q | q | q
        · exact d7 q.symm
        · exact p7 q.symm
        · exact l7 q.symm
        · exact m7 q.symm
        · exact b7 q.symm
        · exact g7 q.symm
        · exact g8.1 q.symm
      have Q2 := Lib.hid (Q1.out.ch hc2 ⟨nPB D (by simp), nPB P (by simp), nPB L (by simp), nPB M (by simp)⟩)
      have M2 := Lib.hid (M1.out.ch hc2 ⟨nPB MB (by simp), nPB gl (by simp), nPB gn (by simp)⟩ (fun b off e => by
        have := HSN.out b (HSA.out b off e)
        simp only [List.mem_cons, List.not_mem_nil, or_false, not_or] at this ⊢
        exact this.2.2.2.2.2.2.2))
      have nBX : W.heap.size ∉ [PB] := fun c => BXB.out (by simp only [List.mem_cons, List.not_mem_nil, or_false] at c ⊢; simp [c])
      replace a0 := hc2.cell a0 nBX
      replace a1 := hc2.cell a1 nBX
      replace a3 := hc2.cell a3 nBX
      have F2 : Hid (Ch W w2 [P, L, M, MB, gl, gn, PB]) := (Ch.of_below B1.out).trans (hc2.sub (fun k hk => .inl (by simp only [List.mem_cons, List.not_mem_nil, or_false] at hk ⊢; simp [hk])))
      clear hp2 hc2 KU P1 Q1 M1 B1 C2
      cases hu : p.use.1
      · skip
        have KW := write_q Q2.out (by omega) xn da dl dc (by have := HX.out.dn; simp only at this; omega) (fun u a l => strs_use (F2.out) HX.out HND.out u a l) (strs_len HX.out)
        have hE : wrE n p xn (joined dl) = 6 := by unfold wrE; rw [hu]; rfl
        have hF : wrF n p f xn (joined dl) = f := by unfold wrF; rw [hu]; rfl
        unfold WrQ at KW
        rw [hE, hF] at KW
        have KW := Lib.hid KW
        clear hE hF
        go_wp2_with fail
        refine KW.out.mono ?_
        rintro x w3 ⟨rfl, hq3, hf3⟩
        have HD := Lib.hid (side_done hq3 M2.out (HR.out) P2.out hf3 F2.out HND.out HLT.out HSN.out (fun b off e => .inl (HSA.out b off e)))
        clear hq3 hf3 KW
        go_wp2
        go_ret
        exact ⟨rfl, HD.out⟩
      · have hwk : wrOk n xn (joined dl) = false := by unfold wrOk; rw [hin]; rfl
        have KW := write_q Q2.out (by omega) xn da dl dc (by have := HX.out.dn; simp only at this; omega) (fun u a l => strs_use (F2.out) HX.out HND.out u a l) (strs_len HX.out)
        have hE : wrE n p xn (joined dl) = 1 := by unfold wrE; rw [hu, hwk]; rfl
        have hF : wrF n p f xn (joined dl) = f := by unfold wrF; rw [hu, hwk]; rfl
        unfold WrQ at KW
        rw [hE, hF] at KW
        have KW := Lib.hid KW
        clear hE hF
        go_wp2_with fail
        refine KW.out.mono ?_
        rintro x w3 ⟨rfl, hq3, hf3⟩
        have HD := Lib.hid (side_done hq3 M2.out (HR.out) P2.out hf3 F2.out HND.out HLT.out HSN.out (fun b off e => .inl (HSA.out b off e)))
        clear hq3 hf3 KW
        go_wp2
        go_ret
        exact ⟨rfl, HD.out⟩
  · have h0d : decide (0 ≤ xn) = false := by rw [decide_eq_false_iff_not]; exact h0
    have h0n : xn < 0 := by omega
    have hin : hasB n xn = false := by unfold hasB; simp only [Bool.and_eq_false_iff, decide_eq_false_iff_not]; exact .inl h0
    go_upto_region 2 with fail
    go_quiet (fail)
    have hbd : Below Y.heap.size Y (Y.drewN nq) := below_drewN (Below.refl _ _) nq
    have Q1 := Lib.hid (Q0.out.below hbd)
    have M1 := Lib.hid (M0.out.below hbd)
    have P1 := Lib.hid (P0.out.ch (S := []) (Ch.of_below hbd) (by simp))
    have B1 := Lib.hid (B0.out.trans (hbd.mono B0.out.size))
    replace a0 := keep_cell hbd a0
    replace a1 := keep_cell hbd a1
    replace a3 := keep_cell hbd a3
    clear hbd Q0 M0 P0 B0 m1
    generalize Y.drewN nq = Z at *
    have KU := Lib.hid (puse_any P1.out (by omega))
    go_wp2_with fail
    refine KU.out.mono ?_
    rintro x w2 ⟨rfl, hp2, hc2⟩
    have P2 := Lib.hid hp2
    have C2 := Lib.hid hc2
    have nPB : ∀ k, k ∈ [D, P, L, M, MB, gl, gn] → k ∉ [PB] := fun k hk c => by
      have nd := HND.out
      have e : k = PB := by simpa using c
      subst e
      simp only [List.nodup_cons, List.mem_cons, List.not_mem_nil, or_false, not_or, List.nodup_nil, and_true] at nd hk
      obtain ⟨⟨_, _, _, _, _, _, d7⟩, ⟨_, _, _, _, _, p7⟩, ⟨_, _, _, _, l7⟩, ⟨_, _, _, m7⟩, ⟨_, _, b7⟩, ⟨_, g7⟩, g8⟩ := nd
      rcases hk with q | q | q | q | q | q | q
      · exact d7 q.symm
      · exact p7 q.symm
      · exact l7 q.symm
      · exact m7 q.symm
      · exact b7 q.symm
      · exact g7 q.symm
      · exact g8.1 q.symm
    have Q2 := Lib.hid (Q1.out.ch hc2 ⟨nPB D (by simp), nPB P (by simp), nPB L (by simp), nPB M (by simp)⟩)
    have M2 := Lib.hid (M1.out.ch hc2 ⟨nPB MB (by simp), nPB gl (by simp), nPB gn (by simp)⟩ (fun b off e => by
      have := HSN.out b (HSA.out b off e)
      simp only [List.mem_cons, List.not_mem_nil, or_false, not_or] at this ⊢
      exact this.2.2.2.2.2.2.2))
    have nBX : W.heap.size ∉ [PB] := fun c => BXB.out (by simp only [List.mem_cons, List.not_mem_nil, or_false] at c ⊢; simp [c])
    replace a0 := hc2.cell a0 nBX
    replace a1 := hc2.cell a1 nBX
    replace a3 := hc2.cell a3 nBX
    have F2 : Hid (Ch W w2 [P, L, M, MB, gl, gn, PB]) := (Ch.of_below B1.out).trans (hc2.sub (fun k hk => .inl (by simp only [List.mem_cons, List.not_mem_nil, or_false] at hk ⊢; simp [hk])))
    clear hp2 hc2 KU P1 Q1 M1 B1 C2
    cases hu : p.use.1
    · skip
      have KW := write_q Q2.out (by omega) xn da dl dc (by have := HX.out.dn; simp only at this; omega) (fun u a l => strs_use (F2.out) HX.out HND.out u a l) (strs_len HX.out)
      have hE : wrE n p xn (joined dl) = 6 := by unfold wrE; rw [hu]; rfl
      have hF : wrF n p f xn (joined dl) = f := by unfold wrF; rw [hu]; rfl
      unfold WrQ at KW
      rw [hE, hF] at KW
      have KW := Lib.hid KW
      clear hE hF
      go_wp2_with fail
      refine KW.out.mono ?_
      rintro x w3 ⟨rfl, hq3, hf3⟩
      have HD := Lib.hid (side_done hq3 M2.out (HR.out) P2.out hf3 F2.out HND.out HLT.out HSN.out (fun b off e => .inl (HSA.out b off e)))
      clear hq3 hf3 KW
      go_wp2
      go_ret
      exact ⟨rfl, HD.out⟩
    · have hwk : wrOk n xn (joined dl) = false := by unfold wrOk; rw [hin]; rfl
      have KW := write_q Q2.out (by omega) xn da dl dc (by have := HX.out.dn; simp only at this; omega) (fun u a l => strs_use (F2.out) HX.out HND.out u a l) (strs_len HX.out)
      have hE : wrE n p xn (joined dl) = 1 := by unfold wrE; rw [hu, hwk]; rfl
      have hF : wrF n p f xn (joined dl) = f := by unfold wrF; rw [hu, hwk]; rfl
      unfold WrQ at KW
      rw [hE, hF] at KW
      have KW := Lib.hid KW
      clear hE hF
      go_wp2_with fail
      refine KW.out.mono ?_
      rintro x w3 ⟨rfl, hq3, hf3⟩
      have HD := Lib.hid (side_done hq3 M2.out (HR.out) P2.out hf3 F2.out HND.out HLT.out HSN.out (fun b off e => .inl (HSA.out b off e)))
      clear hq3 hf3 KW
      go_wp2
      go_ret
      exact ⟨rfl, HD.out⟩
end
end Go.Proofs.Ytobgopiadfinbaa
