/-
  LAW 05's does: a Sync.
-/
import Derived.Test.YtobgopiadfinbaaDpWrite
import Derived.Test.YtobgopiadfinbaaDpArm
import Derived.Maps.AppendAt
import Derived.Laws.OwnMore
namespace Go.Proofs.Ytobgopiadfinbaa
open Go.RowKit
theorem side_nmb2 {D P L M MB PB gl gn : Nat} (hnd : [D, P, L, M, MB, gl, gn, PB].Nodup) : (D ∉ [MB] ∧ P ∉ [MB] ∧ L ∉ [MB] ∧ M ∉ [MB]) ∧ PB ∉ [MB] := by
  have nd := hnd
  simp only [List.nodup_cons, List.mem_cons, List.not_mem_nil, or_false, not_or, List.nodup_nil, and_true] at nd
  obtain ⟨⟨_, _, _, d4, _⟩, ⟨_, _, p4, _⟩, ⟨_, l4, _⟩, ⟨m4, _⟩, ⟨_, _, b7⟩, _⟩ := nd
  simp only [List.mem_cons, List.not_mem_nil, or_false]
  exact ⟨⟨d4, p4, l4, m4⟩, fun e => b7 e.symm⟩
theorem CR.same {n : Nat} {las las2 : List (List UInt8)} {f : Int → Option (List UInt8)} {lt nt : Nat → ByteArray} {ls : List Int} (h : CR n las f lt nt ls) (hl : ∀ j : Nat, j < n → las2.getD j blank64 = las.getD j blank64) : CR n las2 f lt nt ls :=
  ⟨fun i hi => by rw [hl i hi]; exact h.hl i hi, fun i hi => by
    rw [h.hn i hi]
    unfold secAt
    rw [hl i hi], h.up, h.mem, h.len⟩
theorem CR.synced {n : Nat} {las las2 : List (List UInt8)} {f : Int → Option (List UInt8)} {lt nt : Nat → ByteArray} {ls : List Int} (h : CR n las f lt nt ls) (hl : ∀ j : Nat, j < n → las2.getD j blank64 = secAt las f j) : CR n las2 (fun _ => none) nt nt [] :=
  ⟨fun i hi => by rw [hl i hi]; exact h.hn i hi, fun i hi => by
    rw [h.hn i hi]
    congr 1
    exact (hl i hi).symm, List.Pairwise.nil, fun z => by simp, Nat.zero_le _⟩
theorem infoStr : (Try.prog.info? 9).map (fun i => (i.zero, i.size, i.bytes)) = some (some (.string ⟨#[]⟩), 1, 16) := by kernel_rfl
theorem MdAt.synced {W : World} {MB gl gn cl cn : Nat} {sa : Option Addr} {sc n : Nat} {lt nt : Nat → ByteArray} {ls : List Int} (h : MdAt W MB gl gn cl cn sa sc n lt nt ls) {g' c' : Nat} {t : Nat → ByteArray} (hr : ∀ i, i < n → W.cell? ⟨g', i, none⟩ = some (.string (t i))) (hf : ∀ i, W.frozen? ⟨g', i, none⟩ = false) (hne : g' ≠ MB ∧ g' ≠ gn) (hc' : n ≤ c') : MdAt ((W.setCell ⟨MB, 0, none⟩ (.slice (some ⟨g', 0, none⟩) n c')).setCell ⟨MB, 2, none⟩ (.slice none 0 0)) MB g' gn c' cn none 0 n t nt [] :=
  ⟨setCell_at (World.cell?_setCell_same _ _ _ h.c0) (by decide), setCell_at (setCell_at h.c1 (by decide)) (by decide), World.cell?_setCell_same _ _ _ (setCell_at h.c2 (by decide)), fun i => by rw [World.frozen?_setCell, World.frozen?_setCell]; exact h.fz i, fun i hi => cell_set (cell_set (hr i hi) hne.1) hne.1, fun i hi => cell_set (cell_set (h.rn i hi) (fun e => h.ne.2.1 e.symm)) (fun e => h.ne.2.1 e.symm), fun i => by rw [World.frozen?_setCell, World.frozen?_setCell]; exact hf i, fun i => by rw [World.frozen?_setCell, World.frozen?_setCell]; exact h.fn i, .inl rfl, ⟨hne.1.symm, h.ne.2.1, hne.2⟩, fun b off e => by (cases e), h.n1, ⟨hc', h.cp.2⟩⟩
theorem row_some {W : World} {B n : Nat} {v : Value} {t : Nat → ByteArray} (h : W.ownsRow B 9 1 v n ((List.range n).map (fun i => Value.string (t i)))) (hn : 1 ≤ n) : ∃ g c, v = .slice (some ⟨g, 0, none⟩) n c ∧ B ≤ g ∧ n ≤ c ∧ g < W.heap.size := by
  rcases h.2 with ⟨_, hz⟩ | ⟨g, cap, cur, hv, hb, hg, hnc, _⟩
  · omega
  · exact ⟨g, cap, hv, hb, hnc, (Array.getElem?_eq_some_iff.1 hg).1⟩
theorem row_cells {W : World} {B n g c : Nat} {t : Nat → ByteArray} (h : W.ownsRow B 9 1 (.slice (some ⟨g, 0, none⟩) n c) n ((List.range n).map (fun i => Value.string (t i)))) : ∀ i, i < n → W.cell? ⟨g, i, none⟩ = some (.string (t i)) := fun i hi => by
  rw [World.ownsRow.cellAt h i (by omega), List.getElem?_map, List.getElem?_range hi]
  rfl
section
variable {W w2 w3 : World} {D P L M n c MB PB gl gn cl cn g4 : Nat} {p' : Pn} {sb : Option Nat} {las' : List (List UInt8)} {f' : Int → Option (List UInt8)} {sc : Nat} {lt nt : Nat → ByteArray} {ls : List Int}
theorem side_doneG (hQ3 : DQ w3 D P L M n (c + 1) p' las' f') (hM : MdAt w2 MB g4 gn cl cn none sc n lt nt ls) (hR : CR n las' f' lt nt ls) (hP : PwR w2 PB (c + 1) p') (hf : Fr3 P L M w2 w3) (hch : Ch W w2 [P, L, M, MB, gl, gn, PB])
    (hnd : [D, P, L, M, MB, gl, gn, PB].Nodup) (hW : ∀ k ∈ [D, P, L, M, MB, gl, gn, PB], k < W.heap.size) (h4 : W.heap.size ≤ g4) :
    ∃ p'' gl' sb', Side w3 D P L M n (c + 1) MB PB p'' gl' gn sb' ∧ Ch W w3 [P, L, M, MB, gl, gn, PB] ∧ (gl' = gl ∨ W.heap.size ≤ gl') ∧ ∀ b, sb' = some b → sb = some b ∨ W.heap.size ≤ b := by
  have hcf : Ch w2 w3 [P, L, M] := Ch.of_fr3 hf (by simp)
  have l1 := hW D (by simp)
  have l2 := hW P (by simp)
  have l3 := hW L (by simp)
  have l4 := hW M (by simp)
  have l5 := hW MB (by simp)
  have l6 := hW gn (by simp)
  have l7 := hW PB (by simp)
  have nd := hnd
  simp only [List.nodup_cons, List.mem_cons, List.not_mem_nil, or_false, not_or, List.nodup_nil, and_true] at nd
  obtain ⟨⟨d1, d2, d3, d4, d5, d6, d7⟩, ⟨n1, n2, n3, n4, n5, n6⟩, ⟨n7, n8, n9, n10, n11⟩, ⟨n12, n13, n14, n15⟩, ⟨b1, b2, b3⟩, ⟨g1, g2⟩, g8⟩ := nd
  have hnd' : [D, P, L, M, MB, g4, gn, PB].Nodup := by
    simp only [List.nodup_cons, List.mem_cons, List.not_mem_nil, or_false, not_or, List.nodup_nil, and_true]
    exact ⟨⟨d1, d2, d3, d4, by omega, d6, d7⟩, ⟨n1, n2, n3, by omega, n5, n6⟩, ⟨n7, n8, by omega, n10, n11⟩, ⟨n12, by omega, n14, n15⟩, ⟨by omega, b2, b3⟩, ⟨by omega, by omega⟩, g8⟩
  refine ⟨p', g4, none, ⟨⟨las', f', cl, cn, none, sc, lt, nt, ls, hQ3, hM.ch hcf ⟨?_, ?_, ?_⟩ (fun b off e => by cases e), hR, fun b off e => by (cases e)⟩, hP.ch hcf ?_, hnd', fun b e => by (cases e)⟩, ?_, .inr h4, fun b e => by (cases e)⟩
  · simp only [List.mem_cons, List.not_mem_nil, or_false, not_or]; exact ⟨fun e => n3 e.symm, fun e => n8 e.symm, fun e => n12 e.symm⟩
  · simp only [List.mem_cons, List.not_mem_nil, or_false, not_or]; exact ⟨by omega, by omega, by omega⟩
  · simp only [List.mem_cons, List.not_mem_nil, or_false, not_or]; exact ⟨fun e => n5 e.symm, fun e => n10 e.symm, fun e => n14 e.symm⟩
  · simp only [List.mem_cons, List.not_mem_nil, or_false, not_or]; exact ⟨fun e => n6 e.symm, fun e => n11 e.symm, fun e => n15 e.symm⟩
  · exact hch.trans (hcf.sub (fun k hk => .inl (by simp only [List.mem_cons, List.not_mem_nil, or_false] at hk ⊢; rcases hk with q | q | q <;> simp [q])))
end
/-- append of a row of texts to an empty row of the call's own. -/
theorem append_row {w : World} {ops : Array Oper} {rest : List Oper} {o : Oper} {a : Act} {Q : Exit → Act → World → Prop} (hgd : o.guard = none) (s x : Operand)
    (ho : o.op = .call { callee := .builtin .append, args := #[s, x], argTypes := #[35, 35] })
    (B : Nat) (v : Value) (ad : Addr) (n : Nat) (t : Nat → ByteArray) (c : Nat) (hs : a.eval s = v) (hown : w.ownsRow B 9 1 v 0 []) (hx : a.eval x = .slice (some ad) n c) (hm : ∀ j u, ((List.range n).map (fun i => Value.string (t i)))[j]? = some u → w.cell? (ad.add j) = some u) (h10 : n ≤ 100000) (hB : B ≤ w.heap.size)
    (h : ∀ v' w', w'.ownsRow B 9 1 v' n ((List.range n).map (fun i => Value.string (t i))) → w.grownBy w' v.ownBlock → wpList Try.prog ops Q rest (a.put o.dst v') w') :
    wpList Try.prog ops Q (o :: rest) a w := by
  obtain ⟨i0, hi, hzz⟩ := Option.map_eq_some_iff.1 infoStr
  simp only [Prod.mk.injEq] at hzz
  obtain ⟨hz0, hz1, hz2⟩ := hzz
  refine wpList_append_own_at _ hgd s x 35 ho B 9 i0 _ 1 16 Try.underlying35 hi hz0 hz1 hz2 rfl (by decide) v 0 [] hs hown ad n c ((List.range n).map (fun i => Value.string (t i))) hx (by simp) hm (fun u hu => by
    obtain ⟨i, _, rfl⟩ := List.mem_map.1 hu
    rfl) (by unfold maxLen; omega) (by omega) hB (fun v' w' h1 h2 _ _ => h v' w' ?_ h2)
  simpa using h1
section
variable {W : World} {D P L M n c MB PB gl gn : Nat} {p : Pn} {sb : Option Nat}
set_option maxRecDepth 100000 in
set_option maxHeartbeats 4000000 in
theorem does_sync (h : Side W D P L M n c MB PB p gl gn sb) (hc : c ≤ 900) (x : Da) (hx : ArgOk W x [D, P, L, M, MB, gl, gn, PB]) (hk : x.k = 1) :
    Calls Try.prog 8 #[.pointer (some ⟨D, 0, none⟩), .pointer (some ⟨MB, 0, none⟩), .pointer (some ⟨PB, 0, none⟩), .agg x.cells] W (DoP W D P L M n c MB PB gl gn sb) := by
  obtain ⟨⟨las, f, cl, cn, sa, sc, lt, nt, ls, hQ, hM, hR, hsa⟩, hW, hnd, hsn⟩ := h
  obtain ⟨xk, xn, xo, da, dl, dc, ka, kl, kc⟩ := x
  simp only at hk
  subst hk
  simp only [Da.cells]
  have hb0 := (Below.refl W.heap.size W).alloc (Nat.le_refl _) (.cells #[.int .i64 1, .int .i64 xn, .bool xo, .slice da dl.length dc, .slice ka kl.length kc] 38)
  have a1 : (W.alloc (.cells #[.int .i64 1, .int .i64 xn, .bool xo, .slice da dl.length dc, .slice ka kl.length kc] 38)).cell? ⟨W.heap.size, 1, none⟩ = some (.int .i64 xn) := new_cell rfl rfl
  have a0 : (W.alloc (.cells #[.int .i64 1, .int .i64 xn, .bool xo, .slice da dl.length dc, .slice ka kl.length kc] 38)).cell? ⟨W.heap.size, 0, none⟩ = some (.int .i64 1) := new_cell rfl rfl
  have a3 : (W.alloc (.cells #[.int .i64 1, .int .i64 xn, .bool xo, .slice da dl.length dc, .slice ka kl.length kc] 38)).cell? ⟨W.heap.size, 3, none⟩ = some (.slice da dl.length dc) := new_cell rfl rfl
  have KJ := Lib.hid (join_any da dl dc _ (by have := hx.dn; simp only at this; omega) (hx.ds.below hb0) hx.dz)
  have Q0 := Lib.hid (hQ.below hb0)
  have M0 := Lib.hid (hM.below hb0)
  have P0 := Lib.hid (hW.ch (S := []) (Ch.of_below hb0) (by simp))
  have B0 := Lib.hid hb0
  have HX := Lib.hid hx
  have HR := Lib.hid hR
  have HND := Lib.hid hnd
  have HSN := Lib.hid hsn
  have HSA := Lib.hid hsa
  have HLT : Hid (∀ k ∈ [D, P, L, M, MB, gl, gn, PB], k < W.heap.size) := by
    obtain ⟨k, _, hd⟩ := hQ.ex
    have h1 : D < W.heap.size := block_lt (p := ⟨D, 0, none⟩) hd.d0
    have h2 : P < W.heap.size := block_lt (p := ⟨P, 0, none⟩) hd.p0
    have h3 := blk_lt hd.lb
    have h4 : M < W.heap.size := by
      obtain ⟨D0, ⟨es, clock, hbM, F, hs, hD⟩, h5⟩ := hd.mp
      exact blk_lt hbM
    have h5 := hM.lts
    obtain ⟨lm, hp, _⟩ := hW.ex
    have h6 := hp.lt
    show ∀ k ∈ _, k < _
    intro k hk
    simp only [List.mem_cons, List.not_mem_nil, or_false] at hk
    rcases hk with rfl | rfl | rfl | rfl | rfl | rfl | rfl | rfl <;> omega
  have BXB : Hid (W.heap.size ∉ [D, P, L, M, MB, gl, gn, PB]) := fun c => Nat.lt_irrefl _ (HLT.out _ c)
  clear hb0 hx hQ hM hW hR hnd hsn hsa
  go_enter Try.func8, Try.ntmps8
  go_upto_region 1 with fail
  generalize W.alloc (.cells #[.int .i64 1, .int .i64 xn, .bool xo, .slice da dl.length dc, .slice ka kl.length kc] 38) = Y at *
  go_wp2_with fail
  refine KJ.out.mono ?_
  rintro x w1 ⟨rfl, rfl⟩
  have m1 := M0.out.c1
  clear KJ
  by_cases h0 : 0 ≤ xn
  · by_cases h1 : xn < (n : Int)
    · have hin : hasB n xn = true := by unfold hasB; simp only [Bool.and_eq_true, decide_eq_true_eq]; exact ⟨h0, h1⟩
      go_upto_region 2 with fail
      go_quiet (fail)
      have hbd : Below Y.heap.size Y (Y.drewN nq) := below_drewN (Below.refl _ _) nq
      have Q1 := Lib.hid (Q0.out.below hbd)
      have M1 := Lib.hid (M0.out.below hbd)
      have P1 := Lib.hid (P0.out.ch (S := []) (Ch.of_below hbd) (by simp))
      have B1 := Lib.hid (B0.out.trans (hbd.mono B0.out.size))
      replace a0 := keep_cell hbd a0
      replace a1 := keep_cell hbd a1
      replace a3 := keep_cell hbd a3
      clear hbd Q0 M0 P0 B0 m1
      generalize Y.drewN nq = Z at *
      have F1 : Hid (Ch W Z [P, L, M, MB, gl, gn, PB]) := Ch.of_below B1.out
      have KU := Lib.hid (puse_any P1.out (by omega))
      go_wp2_with fail
      refine KU.out.mono ?_
      rintro x w2 ⟨rfl, hp2, hc2⟩
      have P2 := Lib.hid hp2
      have C2 := Lib.hid hc2
      have nPB : ∀ k, k ∈ [D, P, L, M, MB, gl, gn] → k ∉ [PB] := fun k hk c => by
        have nd := HND.out
        have e : k = PB := by simpa using c
        subst e
        simp only [List.nodup_cons, List.mem_cons, List.not_mem_nil, or_false, not_or, List.nodup_nil, and_true] at nd hk
        obtain ⟨⟨_, _, _, _, _, _, d7⟩, ⟨_, _, _, _, _, p7⟩, ⟨_, _, _, _, l7⟩, ⟨_, _, _, m7⟩, ⟨_, _, b7⟩, ⟨_, g7⟩, g8⟩ := nd
        rcases hk with q | q | q | q | q | q | q
        · exact d7 q.symm
        · exact p7 q.symm
        · exact l7 q.symm
        · exact m7 q.symm
        · exact b7 q.symm
        · exact g7 q.symm
        · exact g8.1 q.symm
      have Q2 := Lib.hid (Q1.out.ch hc2 ⟨nPB D (by simp), nPB P (by simp), nPB L (by simp), nPB M (by simp)⟩)
      have M2 := Lib.hid (M1.out.ch hc2 ⟨nPB MB (by simp), nPB gl (by simp), nPB gn (by simp)⟩ (fun b off e => by
        have := HSN.out b (HSA.out b off e)
        simp only [List.mem_cons, List.not_mem_nil, or_false, not_or] at this ⊢
        exact this.2.2.2.2.2.2.2))
      have nBX : W.heap.size ∉ [PB] := fun c => BXB.out (by simp only [List.mem_cons, List.not_mem_nil, or_false] at c ⊢; simp [c])
      replace a0 := hc2.cell a0 nBX
      replace a1 := hc2.cell a1 nBX
      replace a3 := hc2.cell a3 nBX
      have F2 : Hid (Ch W w2 [P, L, M, MB, gl, gn, PB]) := (Ch.of_below B1.out).trans (hc2.sub (fun k hk => .inl (by simp only [List.mem_cons, List.not_mem_nil, or_false] at hk ⊢; simp [hk])))
      clear hp2 hc2 KU P1 Q1 M1 B1 C2
      cases hu : p.use.1
      · have KS := sync_q Q2.out (by omega)
        unfold SyQ at KS
        rw [hu] at KS
        simp only [Bool.false_eq_true, if_false] at KS
        have KS := Lib.hid KS
        go_wp2_with fail
        refine KS.out.mono ?_
        rintro x w3 ⟨rfl, ⟨las2, hq3, hl3⟩, hf3⟩
        have HD := Lib.hid (side_done hq3 M2.out (HR.out.same hl3) P2.out hf3 F2.out HND.out HLT.out HSN.out (fun b off e => .inl (HSA.out b off e)))
        clear hq3 hf3 hl3 KS
        go_wp2
        go_ret
        exact ⟨rfl, HD.out⟩
      · have KS := Lib.hid (fun X (hX : DQ X D P L M n c p las f) => sync_q hX (by omega))
        have hbe := (Below.refl w2.heap.size w2).alloc (Nat.le_refl _) (.cells #[] 9)
        have m1 := keep_cell hbe M2.out.c1
        have HO : Hid ((w2.alloc (.cells #[] 9)).ownsRow w2.heap.size 9 1 (.slice (some ⟨w2.heap.size, 0, none⟩) 0 0) 0 []) :=
          ⟨rfl, .inr ⟨w2.heap.size, 0, #[], rfl, Nat.le_refl _, by show (w2.heap.push _)[w2.heap.size]? = _; simp, Nat.le_refl _, Nat.zero_le _, rfl, rfl⟩⟩
        have HM : Hid (∀ j u, ((List.range n).map (fun i => Value.string (nt i)))[j]? = some u → (w2.alloc (.cells #[] 9)).cell? ((⟨gn, 0, none⟩ : Addr).add j) = some u) := fun j u hj => by
          have hjn : j < n := by
            have := (List.getElem?_eq_some_iff.1 hj).1
            simpa using this
          rw [List.getElem?_map, List.getElem?_range hjn] at hj
          injection hj with hj
          subst hj
          have e2 : (⟨gn, 0, none⟩ : Addr).add j = ⟨gn, j, none⟩ := by unfold Addr.add; split <;> simp_all
          rw [e2]
          exact keep_cell hbe (M2.out.rn j hjn)
        have HBE := Lib.hid hbe
        have HN4 : Hid (n ≤ 4096) := Q2.out.n1.2
        clear hbe
        go_wp2_with (at_builtin; refine append_row (by rfl) _ _ (by rfl) w2.heap.size (.slice (some ⟨w2.heap.size, 0, none⟩) 0 0) ⟨gn, 0, none⟩ n nt cn (by rfl) HO.out (by rfl) HM.out (Nat.le_trans HN4.out (by decide)) HBE.out.size ?_)
        intro v4 w4 ho4 hg4
        obtain ⟨g4, c4, rfl, hg4b, hc4, hg4l⟩ := row_some ho4 M2.out.n1
        have hb4 : Below w2.heap.size w2 w4 := HBE.out.grown hg4 HBE.out.size (fun k hk => by
          have : k = w2.heap.size := by simpa [Value.ownBlock] using hk.symm
          omega)
        have hr4 := row_cells ho4
        have hf4 : ∀ i, w4.frozen? ⟨g4, i, none⟩ = false := fun i => World.ownsRow.frozenAt ho4 i
        have M4 := M2.out.below hb4
        have hlt := M2.out.lts
        have M6 : MdAt ((w4.setCell ⟨MB, 0, none⟩ (.slice (some ⟨g4, 0, none⟩) n c4)).setCell ⟨MB, 2, none⟩ (.slice none 0 0)) MB g4 gn c4 cn none 0 n nt nt [] := M4.synced hr4 hf4 (c' := c4) ⟨by omega, by omega⟩ hc4
        have C6 : Ch w2 ((w4.setCell ⟨MB, 0, none⟩ (.slice (some ⟨g4, 0, none⟩) n c4)).setCell ⟨MB, 2, none⟩ (.slice none 0 0)) [MB] := ((Ch.of_below hb4).set (.inl (by simp))).set (.inl (by simp))
        have nB := side_nmb2 HND.out
        have Q6 := Lib.hid (Q2.out.ch C6 nB.1)
        have P6 := Lib.hid (P2.out.ch C6 nB.2)
        have F6 : Hid (Ch W ((w4.setCell ⟨MB, 0, none⟩ (.slice (some ⟨g4, 0, none⟩) n c4)).setCell ⟨MB, 2, none⟩ (.slice none 0 0)) [P, L, M, MB, gl, gn, PB]) := F2.out.trans (C6.sub (fun k hk => .inl (by simp only [List.mem_cons, List.not_mem_nil, or_false] at hk ⊢; simp [hk])))
        have MM := Lib.hid M6
        have HG4 : Hid (W.heap.size ≤ g4) := Nat.le_trans F2.out.size hg4b
        have x0 := M4.c0
        have xf := M4.fz
        have x2 : (w4.setCell ⟨MB, 0, none⟩ (.slice (some ⟨g4, 0, none⟩) n c4)).cell? ⟨MB, 2, none⟩ = some (.slice sa ls.length sc) := setCell_at M4.c2 (by decide)
        clear hb4 hr4 hf4 M4 hlt M6 C6 nB m1 ho4 hg4 hg4b hc4 hg4l
        go_upto_region 26 with fail
        generalize (w4.setCell ⟨MB, 0, none⟩ (.slice (some ⟨g4, 0, none⟩) n c4)).setCell ⟨MB, 2, none⟩ (.slice none 0 0) = U at *
        have KS2 := KS.out U Q6.out
        unfold SyQ at KS2
        rw [hu] at KS2
        simp only [if_true] at KS2
        have KS2 := Lib.hid KS2
        clear KS x0 xf x2
        go_wp2_with fail
        refine KS2.out.mono ?_
        rintro x w3 ⟨rfl, ⟨las2, hq3, hl3⟩, hf3⟩
        have HD := Lib.hid (side_doneG (sb := sb) hq3 MM.out (HR.out.synced hl3) P6.out hf3 F6.out HND.out HLT.out HG4.out)
        clear hq3 hf3 hl3 KS2
        go_wp2
        go_ret
        exact ⟨rfl, HD.out⟩
    · have hin : hasB n xn = false := by unfold hasB; simp only [Bool.and_eq_false_iff, decide_eq_false_iff_not]; exact .inr h1
      have h1d : decide (xn < (n : Int)) = false := by rw [decide_eq_false_iff_not]; exact h1
      go_upto_region 2 with fail
      go_quiet (fail)
      have hbd : Below Y.heap.size Y (Y.drewN nq) := below_drewN (Below.refl _ _) nq
      have Q1 := Lib.hid (Q0.out.below hbd)
      have M1 := Lib.hid (M0.out.below hbd)
      have P1 := Lib.hid (P0.out.ch (S := []) (Ch.of_below hbd) (by simp))
      have B1 := Lib.hid (B0.out.trans (hbd.mono B0.out.size))
      replace a0 := keep_cell hbd a0
      replace a1 := keep_cell hbd a1
      replace a3 := keep_cell hbd a3
      clear hbd Q0 M0 P0 B0 m1
      generalize Y.drewN nq = Z at *
      have F1 : Hid (Ch W Z [P, L, M, MB, gl, gn, PB]) := Ch.of_below B1.out
      have KU := Lib.hid (puse_any P1.out (by omega))
      go_wp2_with fail
      refine KU.out.mono ?_
      rintro x w2 ⟨rfl, hp2, hc2⟩
      have P2 := Lib.hid hp2
      have C2 := Lib.hid hc2
      have nPB : ∀ k, k ∈ [D, P, L, M, MB, gl, gn] → k ∉ [PB] := fun k hk c => by
        have nd := HND.out
        have e : k = PB := by simpa using c
        subst e
        simp only [List.nodup_cons, List.mem_cons, List.not_mem_nil, or_false, not_or, List.nodup_nil, and_true] at nd hk
        obtain ⟨⟨_, _, _, _, _, _, d7⟩, ⟨_, _, _, _, _, p7⟩, ⟨_, _, _, _, l7⟩, ⟨_, _, _, m7⟩, ⟨_, _, b7⟩, ⟨_, g7⟩, g8⟩ := nd
        rcases hk with q | q | q | q | q | q | q
        · exact d7 q.symm
        · exact p7 q.symm
        · exact l7 q.symm
        · exact m7 q.symm
        · exact b7 q.symm
        · exact g7 q.symm
        · exact g8.1 q.symm
      have Q2 := Lib.hid (Q1.out.ch hc2 ⟨nPB D (by simp), nPB P (by simp), nPB L (by simp), nPB M (by simp)⟩)
      have M2 := Lib.hid (M1.out.ch hc2 ⟨nPB MB (by simp), nPB gl (by simp), nPB gn (by simp)⟩ (fun b off e => by
        have := HSN.out b (HSA.out b off e)
        simp only [List.mem_cons, List.not_mem_nil, or_false, not_or] at this ⊢
        exact this.2.2.2.2.2.2.2))
      have nBX : W.heap.size ∉ [PB] := fun c => BXB.out (by simp only [List.mem_cons, List.not_mem_nil, or_false] at c ⊢; simp [c])
      replace a0 := hc2.cell a0 nBX
      replace a1 := hc2.cell a1 nBX
      replace a3 := hc2.cell a3 nBX
      have F2 : Hid (Ch W w2 [P, L, M, MB, gl, gn, PB]) := (Ch.of_below B1.out).trans (hc2.sub (fun k hk => .inl (by simp only [List.mem_cons, List.not_mem_nil, or_false] at hk ⊢; simp [hk])))
      clear hp2 hc2 KU P1 Q1 M1 B1 C2
      cases hu : p.use.1
      · have KS := sync_q Q2.out (by omega)
        unfold SyQ at KS
        rw [hu] at KS
        simp only [Bool.false_eq_true, if_false] at KS
        have KS := Lib.hid KS
        go_wp2_with fail
        refine KS.out.mono ?_
        rintro x w3 ⟨rfl, ⟨las2, hq3, hl3⟩, hf3⟩
        have HD := Lib.hid (side_done hq3 M2.out (HR.out.same hl3) P2.out hf3 F2.out HND.out HLT.out HSN.out (fun b off e => .inl (HSA.out b off e)))
        clear hq3 hf3 hl3 KS
        go_wp2
        go_ret
        exact ⟨rfl, HD.out⟩
      · have KS := Lib.hid (fun X (hX : DQ X D P L M n c p las f) => sync_q hX (by omega))
        have hbe := (Below.refl w2.heap.size w2).alloc (Nat.le_refl _) (.cells #[] 9)
        have m1 := keep_cell hbe M2.out.c1
        have HO : Hid ((w2.alloc (.cells #[] 9)).ownsRow w2.heap.size 9 1 (.slice (some ⟨w2.heap.size, 0, none⟩) 0 0) 0 []) :=
          ⟨rfl, .inr ⟨w2.heap.size, 0, #[], rfl, Nat.le_refl _, by show (w2.heap.push _)[w2.heap.size]? = _; simp, Nat.le_refl _, Nat.zero_le _, rfl, rfl⟩⟩
        have HM : Hid (∀ j u, ((List.range n).map (fun i => Value.string (nt i)))[j]? = some u → (w2.alloc (.cells #[] 9)).cell? ((⟨gn, 0, none⟩ : Addr).add j) = some u) := fun j u hj => by
          have hjn : j < n := by
            have := (List.getElem?_eq_some_iff.1 hj).1
            simpa using this
          rw [List.getElem?_map, List.getElem?_range hjn] at hj
          injection hj with hj
          subst hj
          have e2 : (⟨gn, 0, none⟩ : Addr).add j = ⟨gn, j, none⟩ := by unfold Addr.add; split <;> simp_all
          rw [e2]
          exact keep_cell hbe (M2.out.rn j hjn)
        have HBE := Lib.hid hbe
        have HN4 : Hid (n ≤ 4096) := Q2.out.n1.2
        clear hbe
        go_wp2_with (at_builtin; refine append_row (by rfl) _ _ (by rfl) w2.heap.size (.slice (some ⟨w2.heap.size, 0, none⟩) 0 0) ⟨gn, 0, none⟩ n nt cn (by rfl) HO.out (by rfl) HM.out (Nat.le_trans HN4.out (by decide)) HBE.out.size ?_)
        intro v4 w4 ho4 hg4
        obtain ⟨g4, c4, rfl, hg4b, hc4, hg4l⟩ := row_some ho4 M2.out.n1
        have hb4 : Below w2.heap.size w2 w4 := HBE.out.grown hg4 HBE.out.size (fun k hk => by
          have : k = w2.heap.size := by simpa [Value.ownBlock] using hk.symm
          omega)
        have hr4 := row_cells ho4
        have hf4 : ∀ i, w4.frozen? ⟨g4, i, none⟩ = false := fun i => World.ownsRow.frozenAt ho4 i
        have M4 := M2.out.below hb4
        have hlt := M2.out.lts
        have M6 : MdAt ((w4.setCell ⟨MB, 0, none⟩ (.slice (some ⟨g4, 0, none⟩) n c4)).setCell ⟨MB, 2, none⟩ (.slice none 0 0)) MB g4 gn c4 cn none 0 n nt nt [] := M4.synced hr4 hf4 (c' := c4) ⟨by omega, by omega⟩ hc4
        have C6 : Ch w2 ((w4.setCell ⟨MB, 0, none⟩ (.slice (some ⟨g4, 0, none⟩) n c4)).setCell ⟨MB, 2, none⟩ (.slice none 0 0)) [MB] := ((Ch.of_below hb4).set (.inl (by simp))).set (.inl (by simp))
        have nB := side_nmb2 HND.out
        have Q6 := Lib.hid (Q2.out.ch C6 nB.1)
        have P6 := Lib.hid (P2.out.ch C6 nB.2)
        have F6 : Hid (Ch W ((w4.setCell ⟨MB, 0, none⟩ (.slice (some ⟨g4, 0, none⟩) n c4)).setCell ⟨MB, 2, none⟩ (.slice none 0 0)) [P, L, M, MB, gl, gn, PB]) := F2.out.trans (C6.sub (fun k hk => .inl (by simp only [List.mem_cons, List.not_mem_nil, or_false] at hk ⊢; simp [hk])))
        have MM := Lib.hid M6
        have HG4 : Hid (W.heap.size ≤ g4) := Nat.le_trans F2.out.size hg4b
        have x0 := M4.c0
        have xf := M4.fz
        have x2 : (w4.setCell ⟨MB, 0, none⟩ (.slice (some ⟨g4, 0, none⟩) n c4)).cell? ⟨MB, 2, none⟩ = some (.slice sa ls.length sc) := setCell_at M4.c2 (by decide)
        clear hb4 hr4 hf4 M4 hlt M6 C6 nB m1 ho4 hg4 hg4b hc4 hg4l
        go_upto_region 26 with fail
        generalize (w4.setCell ⟨MB, 0, none⟩ (.slice (some ⟨g4, 0, none⟩) n c4)).setCell ⟨MB, 2, none⟩ (.slice none 0 0) = U at *
        have KS2 := KS.out U Q6.out
        unfold SyQ at KS2
        rw [hu] at KS2
        simp only [if_true] at KS2
        have KS2 := Lib.hid KS2
        clear KS x0 xf x2
        go_wp2_with fail
        refine KS2.out.mono ?_
        rintro x w3 ⟨rfl, ⟨las2, hq3, hl3⟩, hf3⟩
        have HD := Lib.hid (side_doneG (sb := sb) hq3 MM.out (HR.out.synced hl3) P6.out hf3 F6.out HND.out HLT.out HG4.out)
        clear hq3 hf3 hl3 KS2
        go_wp2
        go_ret
        exact ⟨rfl, HD.out⟩
  · have h0d : decide (0 ≤ xn) = false := by rw [decide_eq_false_iff_not]; exact h0
    have h0n : xn < 0 := by omega
    have hin : hasB n xn = false := by unfold hasB; simp only [Bool.and_eq_false_iff, decide_eq_false_iff_not]; exact .inl h0
    go_upto_region 2 with fail
    go_quiet (fail)
    have hbd : Below Y.heap.size Y (Y.drewN nq) := below_drewN (Below.refl _ _) nq
    have Q1 := Lib.hid (Q0.out.below hbd)
    have M1 := Lib.hid (M0.out.below hbd)
    have P1 := Lib.hid (P0.out.ch (S := []) (Ch.of_below hbd) (by simp))
    have B1 := Lib.hid (B0.out.trans (hbd.mono B0.out.size))
    replace a0 := keep_cell hbd a0
    replace a1 := keep_cell hbd a1
    replace a3 := keep_cell hbd a3
    clear hbd Q0 M0 P0 B0 m1
    generalize Y.drewN nq = Z at *
    have F1 : Hid (Ch W Z [P, L, M, MB, gl, gn, PB]) := Ch.of_below B1.out
    have KU := Lib.hid (puse_any P1.out (by omega))
    go_wp2_with fail
    refine KU.out.mono ?_
    rintro x w2 ⟨rfl, hp2, hc2⟩
    have P2 := Lib.hid hp2
    have C2 := Lib.hid hc2
    have nPB : ∀ k, k ∈ [D, P, L, M, MB, gl, gn] → k ∉ [PB] := fun k hk c => by
      have nd := HND.out
      have e : k = PB := by simpa using c
      subst e
      simp only [List.nodup_cons, List.mem_cons, List.not_mem_nil, or_false, not_or, List.nodup_nil, and_true] at nd hk
      obtain ⟨⟨_, _, _, _, _, _, d7⟩, ⟨_, _, _, _, _, p7⟩, ⟨_, _, _, _, l7⟩, ⟨_, _, _, m7⟩, ⟨_, _, b7⟩, ⟨_, g7⟩, g8⟩ := nd
      rcases hk with q | q | q | q | q | q | q
      · exact d7 q.symm
      · exact p7 q.symm
      · exact l7 q.symm
      · exact m7 q.symm
      · exact b7 q.symm
      · exact g7 q.symm
      · exact g8.1 q.symm
    have Q2 := Lib.hid (Q1.out.ch hc2 ⟨nPB D (by simp), nPB P (by simp), nPB L (by simp), nPB M (by simp)⟩)
    have M2 := Lib.hid (M1.out.ch hc2 ⟨nPB MB (by simp), nPB gl (by simp), nPB gn (by simp)⟩ (fun b off e => by
      have := HSN.out b (HSA.out b off e)
      simp only [List.mem_cons, List.not_mem_nil, or_false, not_or] at this ⊢
      exact this.2.2.2.2.2.2.2))
    have nBX : W.heap.size ∉ [PB] := fun c => BXB.out (by simp only [List.mem_cons, List.not_mem_nil, or_false] at c ⊢; simp [c])
    replace a0 := hc2.cell a0 nBX
    replace a1 := hc2.cell a1 nBX
    replace a3 := hc2.cell a3 nBX
    have F2 : Hid (Ch W w2 [P, L, M, MB, gl, gn, PB]) := (Ch.of_below B1.out).trans (hc2.sub (fun k hk => .inl (by simp only [List.mem_cons, List.not_mem_nil, or_false] at hk ⊢; simp [hk])))
    clear hp2 hc2 KU P1 Q1 M1 B1 C2
    cases hu : p.use.1
    · have KS := sync_q Q2.out (by omega)
      unfold SyQ at KS
      rw [hu] at KS
      simp only [Bool.false_eq_true, if_false] at KS
      have KS := Lib.hid KS
      go_wp2_with fail
      refine KS.out.mono ?_
      rintro x w3 ⟨rfl, ⟨las2, hq3, hl3⟩, hf3⟩
      have HD := Lib.hid (side_done hq3 M2.out (HR.out.same hl3) P2.out hf3 F2.out HND.out HLT.out HSN.out (fun b off e => .inl (HSA.out b off e)))
      clear hq3 hf3 hl3 KS
      go_wp2
      go_ret
      exact ⟨rfl, HD.out⟩
    · have KS := Lib.hid (fun X (hX : DQ X D P L M n c p las f) => sync_q hX (by omega))
      have hbe := (Below.refl w2.heap.size w2).alloc (Nat.le_refl _) (.cells #[] 9)
      have m1 := keep_cell hbe M2.out.c1
      have HO : Hid ((w2.alloc (.cells #[] 9)).ownsRow w2.heap.size 9 1 (.slice (some ⟨w2.heap.size, 0, none⟩) 0 0) 0 []) :=
        ⟨rfl, .inr ⟨w2.heap.size, 0, #[], rfl, Nat.le_refl _, by show (w2.heap.push _)[w2.heap.size]? = _; simp, Nat.le_refl _, Nat.zero_le _, rfl, rfl⟩⟩
      have HM : Hid (∀ j u, ((List.range n).map (fun i => Value.string (nt i)))[j]? = some u → (w2.alloc (.cells #[] 9)).cell? ((⟨gn, 0, none⟩ : Addr).add j) = some u) := fun j u hj => by
        have hjn : j < n := by
          have := (List.getElem?_eq_some_iff.1 hj).1
          simpa using this
        rw [List.getElem?_map, List.getElem?_range hjn] at hj
        injection hj with hj
        subst hj
        have e2 : (⟨gn, 0, none⟩ : Addr).add j = ⟨gn, j, none⟩ := by unfold Addr.add; split <;> simp_all
        rw [e2]
        exact keep_cell hbe (M2.out.rn j hjn)
      have HBE := Lib.hid hbe
      have HN4 : Hid (n ≤ 4096) := Q2.out.n1.2
      clear hbe
      go_wp2_with (at_builtin; refine append_row (by rfl) _ _ (by rfl) w2.heap.size (.slice (some ⟨w2.heap.size, 0, none⟩) 0 0) ⟨gn, 0, none⟩ n nt cn (by rfl) HO.out (by rfl) HM.out (Nat.le_trans HN4.out (by decide)) HBE.out.size ?_)
      intro v4 w4 ho4 hg4
      obtain ⟨g4, c4, rfl, hg4b, hc4, hg4l⟩ := row_some ho4 M2.out.n1
      have hb4 : Below w2.heap.size w2 w4 := HBE.out.grown hg4 HBE.out.size (fun k hk => by
        have : k = w2.heap.size := by simpa [Value.ownBlock] using hk.symm
        omega)
      have hr4 := row_cells ho4
      have hf4 : ∀ i, w4.frozen? ⟨g4, i, none⟩ = false := fun i => World.ownsRow.frozenAt ho4 i
      have M4 := M2.out.below hb4
      have hlt := M2.out.lts
      have M6 : MdAt ((w4.setCell ⟨MB, 0, none⟩ (.slice (some ⟨g4, 0, none⟩) n c4)).setCell ⟨MB, 2, none⟩ (.slice none 0 0)) MB g4 gn c4 cn none 0 n nt nt [] := M4.synced hr4 hf4 (c' := c4) ⟨by omega, by omega⟩ hc4
      have C6 : Ch w2 ((w4.setCell ⟨MB, 0, none⟩ (.slice (some ⟨g4, 0, none⟩) n c4)).setCell ⟨MB, 2, none⟩ (.slice none 0 0)) [MB] := ((Ch.of_below hb4).set (.inl (by simp))).set (.inl (by simp))
      have nB := side_nmb2 HND.out
      have Q6 := Lib.hid (Q2.out.ch C6 nB.1)
      have P6 := Lib.hid (P2.out.ch C6 nB.2)
      have F6 : Hid (Ch W ((w4.setCell ⟨MB, 0, none⟩ (.slice (some ⟨g4, 0, none⟩) n c4)).setCell ⟨MB, 2, none⟩ (.slice none 0 0)) [P, L, M, MB, gl, gn, PB]) := F2.out.trans (C6.sub (fun k hk => .inl (by simp only [List.mem_cons, List.not_mem_nil, or_false] at hk ⊢; simp [hk])))
      have MM := Lib.hid M6
      have HG4 : Hid (W.heap.size ≤ g4) := Nat.le_trans F2.out.size hg4b
      have x0 := M4.c0
      have xf := M4.fz
      have x2 : (w4.setCell ⟨MB, 0, none⟩ (.slice (some ⟨g4, 0, none⟩) n c4)).cell? ⟨MB, 2, none⟩ = some (.slice sa ls.length sc) := setCell_at M4.c2 (by decide)
      clear hb4 hr4 hf4 M4 hlt M6 C6 nB m1 ho4 hg4 hg4b hc4 hg4l
      go_upto_region 26 with fail
      generalize (w4.setCell ⟨MB, 0, none⟩ (.slice (some ⟨g4, 0, none⟩) n c4)).setCell ⟨MB, 2, none⟩ (.slice none 0 0) = U at *
      have KS2 := KS.out U Q6.out
      unfold SyQ at KS2
      rw [hu] at KS2
      simp only [if_true] at KS2
      have KS2 := Lib.hid KS2
      clear KS x0 xf x2
      go_wp2_with fail
      refine KS2.out.mono ?_
      rintro x w3 ⟨rfl, ⟨las2, hq3, hl3⟩, hf3⟩
      have HD := Lib.hid (side_doneG (sb := sb) hq3 MM.out (HR.out.synced hl3) P6.out hf3 F6.out HND.out HLT.out HG4.out)
      clear hq3 hf3 hl3 KS2
      go_wp2
      go_ret
      exact ⟨rfl, HD.out⟩
end
end Go.Proofs.Ytobgopiadfinbaa
