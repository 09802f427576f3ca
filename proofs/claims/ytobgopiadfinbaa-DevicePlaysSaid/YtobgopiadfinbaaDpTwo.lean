/-
  LAW 05: two devices of one power, each beside its model.
-/
import Derived.Test.YtobgopiadfinbaaDpWrite
import Derived.Test.YtobgopiadfinbaaDpBegin
namespace Go.Proofs.Ytobgopiadfinbaa
open Go.RowKit
section
variable {W W' : World} {D E P L1 M1 L2 M2 n1 n2 c c' : Nat} {p p' : Pn} {las las' : List (List UInt8)} {f f' : Int → Option (List UInt8)} {S : List Nat}
/-- The power was written for the other device. -/
theorem DQ.repow (h : DQ W E P L2 M2 n2 c p las f) (g : DQ W' D P L1 M1 n1 c' p' las' f') (hc : Ch W W' S) (hS : E ∉ S ∧ L2 ∉ S ∧ M2 ∉ S) (hcc : c ≤ c') : DQ W' E P L2 M2 n2 c' p' las f := by
  obtain ⟨⟨k, hk, d⟩, ok, _, _, hn⟩ := h
  obtain ⟨⟨k', _, d'⟩, _, u', lf', _⟩ := g
  refine ⟨⟨k, Nat.le_trans hk hcc, ?_⟩, ok, u', lf', hn⟩
  exact {
    d0 := hc.cell d.d0 hS.1
    d1 := hc.cell d.d1 hS.1
    d2 := hc.cell d.d2 hS.1
    p0 := d'.p0
    p1 := d'.p1
    p2 := d'.p2
    p3 := d'.p3
    pf := d'.pf
    lb := (hc.block L2 (blk_lt d.lb) hS.2.1).trans d.lb
    ll := d.ll
    l64 := d.l64
    mp := by
      obtain ⟨D0, ⟨es, clock, hb, F, hs, hD⟩, h5⟩ := d.mp
      exact ⟨D0, ⟨es, clock, (hc.block M2 (blk_lt hb) hS.2.2).trans hb, F, hs, hD⟩, h5⟩
    dp := d.dp
    dl := d.dl
    dm := d.dm
    pl := d.pl
    pm := d.pm
    lm := d.lm }
end
/-- Two lists of blocks that share none. -/
def Apart (A B : List Nat) : Prop := ∀ k, k ∈ A → k ∉ B
theorem Apart.symm {A B : List Nat} (h : Apart A B) : Apart B A := fun k hk hn => h k hn hk
structure Tw (w0 W : World) (D E P PB L1 M1 n1 MB1 gn1 L2 M2 n2 MB2 gn2 c : Nat) (p : Pn) (gl1 gl2 : Nat) (sb1 sb2 : Option Nat) : Prop where
  a : Side W D P L1 M1 n1 c MB1 PB p gl1 gn1 sb1
  b : Side W E P L2 M2 n2 c MB2 PB p gl2 gn2 sb2
  nd : Apart [D, L1, M1, MB1, gl1, gn1] [E, L2, M2, MB2, gl2, gn2]
  s1 : ∀ k, sb1 = some k → k ∉ [E, L2, M2, MB2, gl2, gn2]
  s2 : ∀ k, sb2 = some k → k ∉ [D, L1, M1, MB1, gl1, gn1]
  s12 : ∀ k, sb1 = some k → sb2 ≠ some k
  lo : ∀ k ∈ [D, P, L1, M1, MB1, gl1, gn1, PB], w0.heap.size ≤ k
  lo2 : ∀ k ∈ [E, P, L2, M2, MB2, gl2, gn2, PB], w0.heap.size ≤ k
  ls1 : ∀ k, sb1 = some k → w0.heap.size ≤ k ∧ k < W.heap.size
  ls2 : ∀ k, sb2 = some k → w0.heap.size ≤ k ∧ k < W.heap.size
  bw : Below w0.heap.size w0 W
theorem Side.lts {W : World} {D P L M n c MB PB gl gn : Nat} {p : Pn} {sb : Option Nat} (h : Side W D P L M n c MB PB p gl gn sb) : ∀ k ∈ [D, P, L, M, MB, gl, gn, PB], k < W.heap.size := by
  obtain ⟨⟨las, f, cl, cn, sa, sc, lt, nt, ls, hQ, hM, _, _⟩, hW, _, _⟩ := h
  obtain ⟨k, _, hd⟩ := hQ.ex
  have h1 : D < W.heap.size := block_lt (p := ⟨D, 0, none⟩) hd.d0
  have h2 : P < W.heap.size := block_lt (p := ⟨P, 0, none⟩) hd.p0
  have h3 := blk_lt hd.lb
  have h4 : M < W.heap.size := by
    obtain ⟨D0, ⟨es, clock, hbM, F, hs, hD⟩, h5⟩ := hd.mp
    exact blk_lt hbM
  have h5 := hM.lts
  obtain ⟨lm, hp, _⟩ := hW.ex
  have h6 := hp.lt
  intro k hk
  simp only [List.mem_cons, List.not_mem_nil, or_false] at hk
  rcases hk with rfl | rfl | rfl | rfl | rfl | rfl | rfl | rfl <;> omega
theorem Side.below {W X : World} {D P L M n c MB PB gl gn : Nat} {p : Pn} {sb : Option Nat} (h : Side W D P L M n c MB PB p gl gn sb) (hb : Below W.heap.size W X) : Side X D P L M n c MB PB p gl gn sb := by
  obtain ⟨⟨las, f, cl, cn, sa, sc, lt, nt, ls, hQ, hM, hR, hsa⟩, hW, hnd, hsn⟩ := h
  exact ⟨⟨las, f, cl, cn, sa, sc, lt, nt, ls, hQ.below hb, hM.below hb, hR, hsa⟩, hW.ch (S := []) (Ch.of_below hb) (by simp), hnd, hsn⟩
/-- No more than the block that is there. -/
theorem Side.tight {W : World} {D P L M n c MB PB gl gn : Nat} {p : Pn} {sb : Option Nat} (h : Side W D P L M n c MB PB p gl gn sb) : ∃ sb', Side W D P L M n c MB PB p gl gn sb' ∧ ∀ b, sb' = some b → sb = some b ∧ b < W.heap.size := by
  obtain ⟨⟨las, f, cl, cn, sa, sc, lt, nt, ls, hQ, hM, hR, hsa⟩, hW, hnd, hsn⟩ := h
  have hk : ∀ b, sblk sa = some b → sb = some b ∧ b < W.heap.size := fun b e => by
    obtain ⟨off, e2⟩ := sblk_some e
    exact ⟨hsa b off e2, (hM.sb b off e2).2.2.2⟩
  exact ⟨sblk sa, ⟨⟨las, f, cl, cn, sa, sc, lt, nt, ls, hQ, hM, hR, fun b off e => by rw [e]; rfl⟩, hW, hnd, fun b e => hsn b (hk b e).1⟩, hk⟩
section
variable {w0 W W' : World} {D E P PB L1 M1 n1 MB1 gn1 L2 M2 n2 MB2 gn2 c : Nat} {p p' : Pn} {gl1 gl2 gl' : Nat} {sb1 sb2 sb' : Option Nat}
theorem Tw.symm (h : Tw w0 W D E P PB L1 M1 n1 MB1 gn1 L2 M2 n2 MB2 gn2 c p gl1 gl2 sb1 sb2) : Tw w0 W E D P PB L2 M2 n2 MB2 gn2 L1 M1 n1 MB1 gn1 c p gl2 gl1 sb2 sb1 :=
  ⟨h.b, h.a, h.nd.symm, h.s2, h.s1, fun k e e2 => h.s12 k e2 e, h.lo2, h.lo, h.ls2, h.ls1, h.bw⟩
theorem Tw.below (h : Tw w0 W D E P PB L1 M1 n1 MB1 gn1 L2 M2 n2 MB2 gn2 c p gl1 gl2 sb1 sb2) (hb : Below W.heap.size W W') : Tw w0 W' D E P PB L1 M1 n1 MB1 gn1 L2 M2 n2 MB2 gn2 c p gl1 gl2 sb1 sb2 :=
  { h with a := h.a.below hb, b := h.b.below hb, bw := h.bw.trans (hb.mono h.bw.size), ls1 := fun k e => ⟨(h.ls1 k e).1, Nat.lt_of_lt_of_le (h.ls1 k e).2 hb.size⟩, ls2 := fun k e => ⟨(h.ls2 k e).1, Nat.lt_of_lt_of_le (h.ls2 k e).2 hb.size⟩ }
theorem Tw.act (h : Tw w0 W D E P PB L1 M1 n1 MB1 gn1 L2 M2 n2 MB2 gn2 c p gl1 gl2 sb1 sb2) (ha : Side W' D P L1 M1 n1 (c + 1) MB1 PB p' gl' gn1 sb') (hc : Ch W W' [P, L1, M1, MB1, gl1, gn1, PB]) (hg : gl' = gl1 ∨ W.heap.size ≤ gl') (hs : ∀ b, sb' = some b → sb1 = some b ∨ W.heap.size ≤ b) :
    ∃ sb, Tw w0 W' D E P PB L1 M1 n1 MB1 gn1 L2 M2 n2 MB2 gn2 (c + 1) p' gl' gl2 sb sb2 := by
  have l1 := h.a.lts
  have l2 := h.b.lts
  have nd2 := h.b.nd
  have nd1 := h.nd
  -- none of the other one's blocks is written
  have nS : ∀ k, k ∈ [E, L2, M2, MB2, gl2, gn2] → k ∉ [P, L1, M1, MB1, gl1, gn1, PB] := fun k hk hn => by
    simp only [List.mem_cons, List.not_mem_nil, or_false] at hn
    have hD := fun q => nd1 k q hk
    simp only [List.mem_cons, List.not_mem_nil, or_false] at hD hk
    simp only [List.nodup_cons, List.mem_cons, List.not_mem_nil, or_false, not_or, List.nodup_nil, and_true] at nd2
    obtain ⟨⟨e1, e2, e3, e4, e5, e6, e7⟩, ⟨p2, p3, p4, p5, p6, p7⟩, ⟨q3, q4, q5, q6, q7⟩, ⟨r4, r5, r6, r7⟩, ⟨t5, t6, t7⟩, ⟨v6, v7⟩, x7⟩ := nd2
    rcases hn with q | q | q | q | q | q | q
    · subst q
      rcases hk with q | q | q | q | q | q
      · exact e1 q.symm
      · exact p2 q
      · exact p3 q
      · exact p4 q
      · exact p5 q
      · exact p6 q
    · exact hD (by simp [q])
    · exact hD (by simp [q])
    · exact hD (by simp [q])
    · exact hD (by simp [q])
    · exact hD (by simp [q])
    · subst q
      rcases hk with q | q | q | q | q | q
      · exact e7 q.symm
      · exact q7 q.symm
      · exact r7 q.symm
      · exact t7 q.symm
      · exact v7 q.symm
      · exact x7.1 q.symm
  have nSs : ∀ k, sb2 = some k → k ∉ [P, L1, M1, MB1, gl1, gn1, PB] := fun k hk hn => by
    have h1 := h.s2 k hk
    have h2 := h.b.sn k hk
    simp only [List.mem_cons, List.not_mem_nil, or_false, not_or] at h1 h2 hn
    rcases hn with q | q | q | q | q | q | q
    · exact h2.2.1 q
    · exact h1.2.1 q
    · exact h1.2.2.1 q
    · exact h1.2.2.2.1 q
    · exact h1.2.2.2.2.1 q
    · exact h1.2.2.2.2.2 q
    · exact h2.2.2.2.2.2.2.2 q
  have l6 : ∀ k, k ∈ [E, L2, M2, MB2, gl2, gn2] → k < W.heap.size := fun k hk => l2 k (by
    simp only [List.mem_cons, List.not_mem_nil, or_false] at hk ⊢
    rcases hk with q | q | q | q | q | q <;> simp [q])
  have hb : Side W' E P L2 M2 n2 (c + 1) MB2 PB p' gl2 gn2 sb2 := by
    obtain ⟨⟨las, f, cl, cn, sa, sc, lt, nt, ls, hQ, hM, hR, hsa⟩, _, hnd, hsn⟩ := h.b
    obtain ⟨⟨las', f', _, _, _, _, _, _, _, hQ', _⟩, hpw, _, _⟩ := ha
    exact ⟨⟨las, f, cl, cn, sa, sc, lt, nt, ls, hQ.repow hQ' hc ⟨nS E (by simp), nS L2 (by simp), nS M2 (by simp)⟩ (by omega), hM.ch hc ⟨nS MB2 (by simp), nS gl2 (by simp), nS gn2 (by simp)⟩ (fun b off e => nSs b (hsa b off e)), hR, hsa⟩, hpw, hnd, hsn⟩
  have hlo : ∀ k ∈ [D, P, L1, M1, MB1, gl', gn1, PB], w0.heap.size ≤ k := fun k hk => by
    have hl := h.lo
    have hz := h.bw.size
    simp only [List.mem_cons, List.not_mem_nil, or_false] at hk hl
    rcases hk with q | q | q | q | q | q | q | q
    · exact hl k (by simp [q])
    · exact hl k (by simp [q])
    · exact hl k (by simp [q])
    · exact hl k (by simp [q])
    · exact hl k (by simp [q])
    · rcases hg with e | e
      · exact hl k (by simp [q, e])
      · omega
    · exact hl k (by simp [q])
    · exact hl k (by simp [q])
  obtain ⟨sbt, hat, htt⟩ := ha.tight
  refine ⟨sbt, hat, hb, ?_, ?_, ?_, ?_, hlo, h.lo2, ?_, fun k e => ⟨(h.ls2 k e).1, Nat.lt_of_lt_of_le (h.ls2 k e).2 hc.size⟩, ?_⟩
  · intro k hk hn
    have h3 := l6 k hn
    have h4 := fun q => nd1 k q hn
    simp only [List.mem_cons, List.not_mem_nil, or_false] at hk h4
    rcases hk with q | q | q | q | q | q
    · exact h4 (by simp [q])
    · exact h4 (by simp [q])
    · exact h4 (by simp [q])
    · exact h4 (by simp [q])
    · rcases hg with e | e
      · exact h4 (by simp [q, e])
      · omega
    · exact h4 (by simp [q])
  · intro k hk hn
    rcases hs k (htt k hk).1 with q | q
    · exact h.s1 k q hn
    · have := l6 k hn
      omega
  · intro k hk hn
    have h3 := h.s2 k hk
    simp only [List.mem_cons, List.not_mem_nil, or_false, not_or] at hn h3
    rcases hn with q | q | q | q | q | q
    · exact h3.1 q
    · exact h3.2.1 q
    · exact h3.2.2.1 q
    · exact h3.2.2.2.1 q
    · rcases hg with e | e
      · exact h3.2.2.2.2.1 (q.trans e)
      · have := (h.ls2 k hk).2
        omega
    · exact h3.2.2.2.2.2 q
  · intro k hk hn
    rcases hs k (htt k hk).1 with q | q
    · exact h.s12 k q hn
    · have := (h.ls2 k hn).2
      omega
  · intro k hk
    rcases hs k (htt k hk).1 with q | q
    · exact ⟨(h.ls1 k q).1, (htt k hk).2⟩
    · exact ⟨Nat.le_trans h.bw.size q, (htt k hk).2⟩
  · exact h.bw.trans ((hc.below (B := w0.heap.size) h.bw.size (fun k hk => h.lo k (List.mem_cons_of_mem _ hk))))
end
section
variable {w0 W : World} {D E P PB L1 M1 n1 MB1 gn1 L2 M2 n2 MB2 gn2 gl1 gl2 cl1 cn1 cl2 cn2 s2 s3 s4 s5 : Nat}
theorem Side.begin {MB gl gn cl cn n L M D : Nat} (ha : DevAt W D P L M n 0 false 0 false 0 (List.replicate n blank64) (fun _ => none)) (hn : 1 ≤ n ∧ n ≤ 4096) (ma : MdAt W MB gl gn cl cn none 0 n (fun _ => txt blank64) (fun _ => txt blank64) []) (pw : PwAt W PB false false 0 0) (hd : [D, P, L, M, MB, gl, gn, PB].Nodup) : Side W D P L M n 0 MB PB ⟨false, false, 0, 0⟩ gl gn none :=
  ⟨⟨_, _, cl, cn, none, 0, _, _, [], ⟨⟨0, Nat.le_refl _, ha⟩, LooseOk.no, ⟨by simp, by simp⟩, fun e => by (cases e), hn⟩, ma, CR.begun n, fun b off e => by (cases e)⟩, ⟨⟨0, pw, fun e => by (cases e), by simp, by simp⟩, ⟨by simp, by simp⟩⟩, hd, fun b e => by (cases e)⟩
theorem Tw.begin (ha : DevAt W D P L1 M1 n1 0 false 0 false 0 (List.replicate n1 blank64) (fun _ => none)) (hb : DevAt W E P L2 M2 n2 0 false 0 false 0 (List.replicate n2 blank64) (fun _ => none))
    (ma : MdAt W MB1 gl1 gn1 cl1 cn1 none 0 n1 (fun _ => txt blank64) (fun _ => txt blank64) []) (mb : MdAt W MB2 gl2 gn2 cl2 cn2 none 0 n2 (fun _ => txt blank64) (fun _ => txt blank64) []) (pw : PwAt W PB false false 0 0)
    (hn1 : 1 ≤ n1 ∧ n1 ≤ 4096) (hn2 : 1 ≤ n2 ∧ n2 ≤ 4096) (hP : w0.heap.size ≤ P ∧ P < s2) (hD : s2 ≤ D ∧ s2 ≤ L1 ∧ s2 ≤ M1) (hD2 : D < s3 ∧ L1 < s3 ∧ M1 < s3) (hE : s3 ≤ E ∧ s3 ≤ L2 ∧ s3 ≤ M2) (hE2 : E < s4 ∧ L2 < s4 ∧ M2 < s4)
    (hM : s4 ≤ MB1 ∧ s4 ≤ gl1 ∧ s4 ≤ gn1) (hM2 : MB1 < s5 ∧ gl1 < s5 ∧ gn1 < s5) (hN : s5 ≤ MB2 ∧ s5 ≤ gl2 ∧ s5 ≤ gn2) (hN2 : MB2 < PB ∧ gl2 < PB ∧ gn2 < PB) (hs : s2 ≤ s3 ∧ s3 ≤ s4 ∧ s4 ≤ s5 ∧ s5 ≤ PB) (bw : Below w0.heap.size w0 W) :
    Tw w0 W D E P PB L1 M1 n1 MB1 gn1 L2 M2 n2 MB2 gn2 0 ⟨false, false, 0, 0⟩ gl1 gl2 none none := by
  have d1 := ha.dl
  have d2 := ha.dm
  have d3 := ha.lm
  have e1 := hb.dl
  have e2 := hb.dm
  have e3 := hb.lm
  obtain ⟨m1, m2, m3⟩ := ma.ne
  obtain ⟨m4, m5, m6⟩ := mb.ne
  have nd1 : [D, P, L1, M1, MB1, gl1, gn1, PB].Nodup := by
    simp only [List.nodup_cons, List.mem_cons, List.not_mem_nil, or_false, not_or, List.nodup_nil, and_true]
    and_intros <;> first | assumption | trivial | (apply Nat.ne_of_lt; omega) | (apply Nat.ne_of_gt; omega) | (intro e; exact e)
  have nd2 : [E, P, L2, M2, MB2, gl2, gn2, PB].Nodup := by
    simp only [List.nodup_cons, List.mem_cons, List.not_mem_nil, or_false, not_or, List.nodup_nil, and_true]
    and_intros <;> first | assumption | trivial | (apply Nat.ne_of_lt; omega) | (apply Nat.ne_of_gt; omega) | (intro e; exact e)
  refine ⟨Side.begin ha hn1 ma pw nd1, Side.begin hb hn2 mb pw nd2, ?_, fun _ e => by (cases e), fun _ e => by (cases e), fun _ e => by (cases e), ?_, ?_, fun _ e => by (cases e), fun _ e => by (cases e), bw⟩
  · intro k hk hn
    simp only [List.mem_cons, List.not_mem_nil, or_false] at hk hn
    omega
  · intro k hk
    simp only [List.mem_cons, List.not_mem_nil, or_false] at hk
    omega
  · intro k hk
    simp only [List.mem_cons, List.not_mem_nil, or_false] at hk
    omega
/-- An act came in ahead of all that the law made. -/
theorem arg_ok {w0 W : World} {x : Da} {S : List Nat} (h : DaOk w0 x) (hd : x.dl.length ≤ 6) (hj : (joined x.dl).length ≤ 200) (hk : x.kl.length ≤ 40) (hS : ∀ k ∈ S, w0.heap.size ≤ k) (hb : Below w0.heap.size w0 W) : ArgOk W x S :=
  ⟨h.n, h.ds.below hb, h.dz, hd, hj, h.ks.below hb, h.kz, hk, fun e0 b off e c => by
    rcases h.ds with q | ⟨b', off', e', hc⟩
    · exact e0 q
    · rw [e'] at e
      injection e with e
      injection e with e _
      have h0 : 0 < x.dl.length := by
        cases hx : x.dl with
        | nil => exact absurd hx e0
        | cons _ _ => simp
      have h1 : b' < w0.heap.size := block_lt (p := ⟨b', off' + 0, none⟩) (hc 0 h0)
      have := hS b c
      omega, fun e0 b off e c => by
    rcases h.ks with q | ⟨b', off', e', hc⟩
    · exact e0 q
    · rw [e'] at e
      injection e with e
      injection e with e _
      have h0 : 0 < x.kl.length := by
        cases hx : x.kl with
        | nil => exact absurd hx e0
        | cons _ _ => simp
      have h1 : b' < w0.heap.size := block_lt (p := ⟨b', off' + 0, none⟩) (hc 0 h0)
      have := hS b c
      omega⟩
end
end Go.Proofs.Ytobgopiadfinbaa
