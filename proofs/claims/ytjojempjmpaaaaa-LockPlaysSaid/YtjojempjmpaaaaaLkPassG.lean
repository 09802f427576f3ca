/-
  A TABLE OF LOCKS: pass of any keys.
-/
import Derived.Test.YtjojempjmpaaaaaLkm6
import Derived.Test.YtjojempjmpaaaaaLkAll
namespace Go.Proofs.Ytjojempjmpaaaaa
open Go.RowKit
section
variable {B : Nat} {W X : World} {T ml mh mw n : Nat} {s : Lk}
theorem keysAt_of {a : Option Addr} {l : List ByteArray} (h : KeysAt W a l) (hb : ∀ p, a = some p → X.heap[p.block]? = W.heap[p.block]?) : KeysAt X a l :=
  h.imp id fun ⟨b, off, ha, hi⟩ => ⟨b, off, ha, fun i hl => (World.cell?_of_block (a := ⟨b, off + i, none⟩) (hb ⟨b, off, none⟩ ha)).trans (hi i hl)⟩
theorem ntP {p : Nat → Option Obj} {g : Nat} (h : Nt (withP s p) T g) (hp : s.pas g = none) : Nt s T g := ⟨h.t, h.k, h.x, hp⟩
/-- The first one of a line. -/
def firstL (a b : List Nat) : Option Nat := (a ++ b).head?
theorem finS_yes {s : Lk} {k : ByteArray} (h : s.q 0 k = []) : finS s k = { s with lk := updM s.lk k none } := by unfold finS; rw [if_pos h]
theorem finS_no {s : Lk} {k : ByteArray} (h : s.q 0 k ≠ []) : finS s k = s := by unfold finS; rw [if_neg h]
theorem Nt.fin {s : Lk} {k : ByteArray} {g : Nat} (h : Nt s T g) : Nt (finS s k) T g := ⟨h.t, fun k' K e => by
  have e : (if s.q 0 k = [] then updM s.lk k none else s.lk) k' = some K := e
  split at e
  · rcases updM_cases e with ⟨_, c⟩ | ⟨_, c⟩
    · cases c
    · exact h.k k' K c
  · exact h.k k' K e, h.x, h.p⟩
theorem LkC.withP2 {s : Lk} {p : Nat → Option Obj} (h : LkC (Go.Proofs.Ytjojempjmpaaaaa.withP s p)) : LkC s := ⟨⟨h.ok.h1, h.ok.h2, h.ok.ck, h.ok.w1, h.ok.w2, h.ok.r1, h.ok.r2, h.ok.cp⟩, h.qd, h.nd, h.q3⟩
/-- What is known behind so many keys and steps. -/
theorem PsW.facts {wr : World} {ks : List ByteArray} {v : Value} {os o2 : List Int} {k : ByteArray} {s1 s2 : Lk} (h : PsW B W wr T ml mh mw n s ks v os o2 k s1 s2) (hc : LkC s) {c : Nat} (hw : Wn s c) (hn : ks.Nodup) :
    LkC s1 ∧ LkC s2 ∧ Wn s2 (c - (os ++ o2).length) ∧ (os ++ o2).length ≤ c ∧ s2.pas = s.pas ∧ (∀ k', k' ∉ ks → k' ≠ k → SameAt s s2 k') ∧ (∀ k', k' ∉ ks → s2.lk k' = s.lk k') := by
  obtain ⟨a1, a2, a3, a4, _⟩ := h.fp.all hc hw hn
  obtain ⟨b1, b2, b3, b4⟩ := h.fq.all a1 a4
  have hl : ∀ {s1 s2 : Lk} {os : List Int}, PassK k s1 os s2 → s2.lk = s1.lk := fun hq => by
    induction hq with
    | nil => rfl
    | snoc _ st ih =>
      rw [← ih]
      cases st <;> rfl
  refine ⟨a1, b1, ?_, ?_, h.fq.pas.trans h.fp.pas, fun k' h1 h2 => (a2.oth k' h1).trans (b2.oth k' h2), fun k' h1 => ?_⟩
  · rw [List.length_append, ← Nat.sub_sub]; exact b4
  · rw [List.length_append]; omega
  · rw [hl h.fq]; exact (a2.oth k' h1).l
theorem PsW.fin {wr : World} {ks : List ByteArray} {v : Value} {os o2 : List Int} {k : ByteArray} {s1 s2 : Lk} (h : PsW B W wr T ml mh mw n s ks v os o2 k s1 s2) (hs : Stuck k s2) (t : LkAt B X T ml mh mw (n + 3 * (os ++ o2).length) (finS s2 k)) (hv : RowI X W.heap.size v (os ++ o2)) (hb : Below B W X) :
    PsW B W X T ml mh mw n s (ks ++ [k]) v (os ++ o2) [] ByteArray.empty (finS s2 k) (finS s2 k) :=
  ⟨.snoc h.fp h.fq hs, .nil, by rw [List.append_nil]; exact t, by rw [List.append_nil]; exact hv, by rw [List.append_nil]; exact h.f0, fun g e => (h.fn g e).fin, hb⟩
theorem nodup_take {ks : List ByteArray} (h : ks.Nodup) {j : Nat} (hj : j < ks.length) : ks[j] ∉ ks.take j := fun c => by
  obtain ⟨i, hi, e⟩ := List.getElem_of_mem c
  rw [List.length_take] at hi
  rw [List.getElem_take] at e
  exact List.pairwise_iff_getElem.1 h i j (by omega) hj (by omega) e
set_option maxRecDepth 100000 in
set_option maxHeartbeats 4000000 in
theorem pass_any (h : LkAt B W T ml mh mw n s) (hc : LkC s) {c : Nat} (hw : Wn s c) {v0 : Value} {kl : List ByteArray} (hr : RowS W B v0 kl) (h0 : kl = [] → v0 = .slice none 0 0) (hn : ∀ g, v0.ownBlock = some g → Nt s T g) (hkl : kl.length ≤ 100000) (hlk : ∀ k, k ∈ kl → s.lk k ≠ none ∧ k.size ≤ 100) (hb : n + 3 * c ≤ 1000000) :
    Calls Try.prog 36 #[.pointer (some ⟨T, 0, none⟩), v0] W (PgP B T ml mh mw n s (keysL kl) W) := by
  have o0 := own0 hr (by decide) (fun e => h0 (List.length_eq_zero_iff.1 e))
  have KS := Lib.hid (sort_row hr (by omega))
  have KC := Lib.hid (fun W1 (h1 : RowS W1 B v0 (ofB ((lb kl).mergeSort fun x y => decide (x ≤ y)))) => compact_row h1 (by rw [ofB_len, List.length_mergeSort, lb_len]; omega))
  rw [lb_ofB, compact_sort, ← keysL] at KC
  have H0 := Lib.hid h
  have HR := Lib.hid hr
  have HC := Lib.hid hc
  have HW := Lib.hid hw
  have HLK : Hid (∀ k, k ∈ keysL kl → s.lk k ≠ none ∧ k.size ≤ 100) := fun k hk => hlk k (keysL_mem.1 hk)
  have HND := Lib.hid (keysL_nd kl)
  have hkl2 : (keysL kl).length ≤ 100000 := Nat.le_trans (keysL_len kl) hkl
  have HN := Lib.hid hn
  have h00 : kl.length = 0 → v0 = .slice none 0 0 := fun e => h0 (List.length_eq_zero_iff.1 e)
  have hsl : (ofB ((lb kl).mergeSort fun x y => decide (x ≤ y))).length = kl.length := by rw [ofB_len, List.length_mergeSort, lb_len]
  have HBW := Lib.hid h.lts
  have O0 := Lib.hid o0
  clear h hr hc hw hlk h0 hn o0
  generalize keysL kl = ks at *
  go_enter Try.func36, Try.ntmps36
  go_wp2_with fail
  refine KS.out.mono ?_
  rintro e w1 ⟨rfl, hr1, hg1⟩
  obtain ⟨h1, hb1, _⟩ := H0.out.appended (v := v0) (v' := v0) (fun g e => ⟨HN.out g e, (O0.out g e).1, (O0.out g e).2.1⟩) hg1 (.inl rfl)
  have O1 := Lib.hid (own0 hr1 (by decide) (fun e => h00 (hsl ▸ e)))
  have KC1 := Lib.hid (KC.out w1 hr1)
  have H1 := Lib.hid h1
  have HB1 := Lib.hid hb1
  clear hr1 hg1 h1 hb1 KS KC
  go_wp2_with fail
  refine KC1.out.mono ?_
  rintro e w2 ⟨a2, c2, rfl, hc2, hg2, ha2⟩
  obtain ⟨h2, hb2, _⟩ := H1.out.appended (v := v0) (v' := v0) (fun g e => ⟨HN.out g e, (O1.out g e).1, (O1.out g e).2.1⟩) hg2 (.inl rfl)
  have HB2 := Lib.hid (HB1.out.trans hb2)
  clear hb2 KC1 HR O0 H0 H1 HB1 hg2 O1
  -- the keys ride along
  have A2 : ∀ g, v0.ownBlock = some g → Nt s T g ∧ (ks ≠ [] → ∃ i u, w2.cell? ⟨g, i, none⟩ = some u) := fun g e => ⟨HN.out g e, fun hk => by
    rcases hc2 with q | ⟨b, off, qa, qi⟩
    · exact absurd q hk
    · have e2 := ha2 _ qa
      rw [e] at e2
      injection e2 with e2
      have e2 : g = b := e2
      rw [e2]
      exact ⟨_, _, qi 0 (List.length_pos_iff.2 hk)⟩⟩
  obtain ⟨p0, hp0, h3, hk3⟩ : ∃ p0, (∀ b c, s.pas b = some c → p0 b = some c) ∧ LkAt B w2 T ml mh mw n (withP s p0) ∧ ∀ wr n' s', LkAt B wr T ml mh mw n' s' → s'.pas = p0 → KeysAt wr a2 ks := by
    by_cases hk : ks = []
    · exact ⟨s.pas, fun _ _ e => e, h2, fun _ _ _ _ _ => .inl hk⟩
    · refine ⟨rideP s.pas v0 w2, fun b c e => ?_, h2.ride (fun g e => ⟨(A2 g e).1, (A2 g e).2 hk⟩), fun wr n' s' ht hp => keysAt_of hc2 (fun p qa => ?_)⟩
      · unfold rideP
        rw [if_neg (fun q => ?_)]
        · exact e
        · rw [(A2 b q).1.p] at e; cases e
      · have q := ha2 p qa
        obtain ⟨i, u, hu⟩ := (A2 _ q).2 hk
        have hlt := block_lt hu
        have e1 : w2.heap[p.block]? = some w2.heap[p.block] := Array.getElem?_eq_getElem hlt
        have e2 : s'.pas p.block = some w2.heap[p.block] := by
          rw [hp]
          unfold rideP
          rw [if_pos q]; exact e1
        exact (ht.ps.pa _ _ e2).trans e1.symm
  have HP0 := Lib.hid hp0
  have HK3 := Lib.hid hk3
  have HC0 := Lib.hid (HC.out.withP p0)
  have HW0 : Hid (Wn (withP s p0) c) := HW.out
  have S0 : Hid (PsW B W w2 T ml mh mw n (withP s p0) (ks.take 0) (.slice none 0 0) [] [] ByteArray.empty (withP s p0) (withP s p0)) := by
    rw [List.take_zero]
    exact ⟨.nil, .nil, h3, World.ownsRow_nil _ _ _ _, fun _ => rfl, fun g e => (by cases e), HB2.out⟩
  clear hp0 hk3 h3 h2 hc2 A2 ha2 HB2
  have hks : (ks.length : Int) ≤ 100000 := by omega
  go_wp2
  go_loopw [5, 7, 8, 9, 15] (fun v _ _ _ i wr => ∃ (j : Nat) (os : List Int) (s1 : Lk), i = .int .i64 (j : Int) ∧ j ≤ ks.length ∧ Hid (PsW B W wr T ml mh mw n (withP s p0) (ks.take j) v os [] ByteArray.empty s1 s1)) (fun _ _ _ _ i _ => ks.length - (intOf i).toNat)
  case atStart => exact ⟨0, [], _, rfl, Nat.zero_le _, S0⟩
  case round =>
    obtain ⟨j, os, s1, rfl, hj, st⟩ := hrel
    rename World => wr
    clear S0
    by_cases hlt : j < ks.length
    · have hnt : ks[j] ∉ ks.take j := nodup_take HND.out hlt
      have HTK := Lib.hid (List.take_succ_eq_append_getElem hlt : ks.take (j + 1) = ks.take j ++ [ks[j]])
      have HND2 : Hid (ks.take j).Nodup := HND.out.sublist (List.take_sublist _ _)
      obtain ⟨f1, _, f3, f4, f5, f6, f7⟩ := st.out.facts HC0.out HW0.out HND2.out
      obtain ⟨hl, hsz⟩ := HLK.out ks[j] (List.getElem_mem hlt)
      obtain ⟨K, hK⟩ := Option.ne_none_iff_exists'.1 hl
      have hK1 : s1.lk ks[j] = some K := (f7 ks[j] hnt).trans hK
      obtain ⟨b2, off2, rfl, hcells⟩ := (HK3.out wr _ s1 st.out.ft f5).resolve_left (fun e => by rw [e] at hlt; cases hlt)
      have hcj := hcells j hlt
      have hgd : ks.getD j ByteArray.empty = ks[j] := by rw [List.getD_eq_getElem?_getD, List.getElem?_eq_getElem hlt]; rfl
      rw [hgd] at hcj
      have t0 := st.out.ft.t0
      have l3 := st.out.ft.m0.look lockMap ks[j] (show ks[j].size ≤ maxLen by unfold maxLen; omega)
      rw [hK1] at l3
      replace l3 : (Instr.lookup 56 (.map (some ml)) (.string ks[j]) false).run Try.prog wr = .ok (.pointer (some ⟨K, 0, none⟩)) wr := l3
      have KF : Hid (Calls Try.prog 30 #[.pointer (some ⟨K, 0, none⟩)] wr fun e W' => e = .returned (pV (firstL (s1.q 1 ks[j]) (s1.q 2 ks[j]))) ∧ wr = W') := first_any (st.out.ft.qa _ K hK1 1 (by decide)) (st.out.ft.qa _ K hK1 2 (by decide))
      have HNT := Lib.hid hnt
      have HSZ := Lib.hid hsz
      have HK1 := Lib.hid hK1
      have hj2 : j < 100000 := Nat.lt_of_lt_of_le hlt hkl2
      have HLT := Lib.hid hlt
      clear hnt hl hsz hK hK1 hcells hgd f1 f3 f4 f5 f6 f7
      generalize ks[j] = k at *
      go_wp2_with fail
      refine KF.out.mono ?_
      rintro e w3 ⟨rfl, rfl⟩
      have S1 : Hid (PsW B W wr T ml mh mw n (withP s p0) (ks.take j) u5 os [] k s1 s1) := { st.out with fq := .nil }
      have HKS : Hid ((withP s p0).lk k = some K) := by
        obtain ⟨_, _, _, _, _, _, f7⟩ := st.out.facts HC0.out HW0.out HND2.out
        exact (f7 k HNT.out).symm.trans HK1.out
      clear KF st l3 t0 hcj HK1
      go_wp2
      go_loopw [5, 9] (fun v u wx => ∃ (o2 : List Int) (s2 : Lk), u = pV (firstL (s2.q 1 k) (s2.q 2 k)) ∧ Hid (PsW B W wx T ml mh mw n (withP s p0) (ks.take j) v os o2 k s1 s2)) (fun v _ _ => c - slen v)
      case atStart => exact ⟨[], s1, rfl, S1⟩
      case round =>
        obtain ⟨o2, s2, rfl, si⟩ := hrel
        rename World => wx
        clear S1
        obtain ⟨g1, g2, g3, g4, g5, g6, g7⟩ := si.out.facts HC0.out HW0.out HND2.out
        have hK2 : s2.lk k = some K := (g7 k HNT.out).trans HKS.out
        by_cases hst : ∃ w, firstL (s2.q 1 k) (s2.q 2 k) = some w ∧ freeB s2.con (s2.con w) (s2.q 0 k) = true
        · obtain ⟨w, hw1, hfr⟩ := hst
          have hwm : ∃ i, i < 3 ∧ w ∈ s2.q i k := by
            rcases List.mem_append.1 (List.mem_of_head? hw1) with q | q
            · exact ⟨1, by decide, q⟩
            · exact ⟨2, by decide, q⟩
          obtain ⟨iw, hiw, hwq⟩ := hwm
          have KR := free_any s2.con (si.out.ft.qa k K hK2 0 (by decide)) (si.out.ft.wc iw k w hiw hwq) (fun z hz => si.out.ft.wc 0 k z (by decide) hz)
          rw [hfr] at KR
          have KR := Lib.hid KR
          rw [hw1, show pV (some w) = .pointer (some ⟨w, 0, none⟩) from rfl]
          have HG2 := Lib.hid g2
          have HG3 := Lib.hid g3
          have HW1 := Lib.hid hw1
          have HFR := Lib.hid hfr
          have HK2 := Lib.hid hK2
          clear g1 g2 g3 g5 g6 g7 hK2 hw1 hfr hwq
          go_wp2_with fail
          refine KR.out.mono ?_
          rintro e w4 ⟨rfl, hb4⟩
          have S4 := Lib.hid (si.out.below hb4)
          clear KR hb4 si
          have o4 := own0 S4.out.fv (by decide) (fun e => S4.out.f0 (List.length_eq_zero_iff.1 e))
          have h4 := S4.out.ft.ride (v := u5) (fun g e => ⟨S4.out.fn g e, 0, (o4 g e).1⟩)
          obtain ⟨sA, KLv, KHd⟩ := step_at h4 (HG2.out.withP _) (k := k) (w := w) HW1.out HFR.out (by have h1 : (os ++ o2).length ≤ c := g4; omega)
          have KLv := Lib.hid KLv
          have KHd := Lib.hid KHd
          clear o4 h4
          go_wp2_with fail
          refine KLv.out.mono ?_
          rintro e w5 ⟨rfl, h5, f5, b5⟩
          have KH5 := Lib.hid (KHd.out w5 h5 f5)
          have B5 := Lib.hid b5
          clear KLv KHd h5 f5 b5
          go_wp2_with fail
          refine KH5.out.mono ?_
          rintro e w6 ⟨rfl, s3, hs3, h6, b6, c6⟩
          have hs3p : s3.pas = rideP s2.pas u5 w4 := hs3.pas
          have hs3' : Step k s2 w (withP s3 s2.pas) := hs3.withP s2.pas
          have o4 := own0 S4.out.fv (by decide) (fun e => S4.out.f0 (List.length_eq_zero_iff.1 e))
          have r6 := fun g (e : u5.ownBlock = some g) => h6.rode hs3p e (o4 g e).2.2 (S4.out.fn g e).p
          have t6 := h6.unride hs3p (fun g e => (S4.out.fn g e).p)
          have v6 : RowI w6 W.heap.size u5 (os ++ o2) := ownsRow_of S4.out.fv (fun g e => (r6 g e).1)
          have hba : Below w6.heap.size w6 (w6.alloc (.cells #[.int .i64 (s2.con w).ow] 3)) := (Below.refl _ _).alloc (Nat.le_refl _) _
          have T7 := Lib.hid (t6.below hba)
          have V7 : Hid (RowI (w6.alloc (.cells #[.int .i64 (s2.con w).ow] 3)) W.heap.size u5 (os ++ o2)) := ownsRow_of v6 (fun g e => hba.block g (by
            obtain ⟨⟨u, hu⟩, _⟩ := own0 v6 (by decide) (fun e => S4.out.f0 (List.length_eq_zero_iff.1 e)) g e
            exact block_lt (p := ⟨g, 0, none⟩) hu))
          have B7 := Lib.hid (((S4.out.fb.trans B5.out).trans b6).trans (hba.mono t6.lts))
          have N7 := Lib.hid (fun g e => (r6 g e).2)
          have HS3 := Lib.hid hs3'
          have hcl : (w6.alloc (.cells #[.int .i64 (s2.con w).ow] 3)).cell? ((⟨w6.heap.size, 0, none⟩ : Addr).add 0) = some (.int .i64 (s2.con w).ow) := new_cell rfl rfl
          have hbw7 : W.heap.size ≤ (w6.alloc (.cells #[.int .i64 (s2.con w).ow] 3)).heap.size := by
            rw [World.size_alloc]
            have e4 := S4.out.fb.size
            have e5 := B5.out.size
            have e6 := b6.size
            omega
          have hlen : (os ++ o2).length ≤ 1000000 := by have h1 : (os ++ o2).length ≤ c := g4; omega
          clear o4 r6 t6 v6 hba hs3 hs3' h6 b6 KH5 B5 hs3p
          go_wp2_with (at_builtin; refine append_i2 rfl _ _ rfl W.heap.size u5 (os ++ o2) ⟨w6.heap.size, 0, none⟩ (s2.con w).ow 1 rfl V7.out rfl hcl hlen hbw7 ?_)
          intro v8 w8 hr8 hg8 ho8
          have ST : Hid (PsW B W w8 T ml mh mw n (withP s p0) (ks.take j) v8 os (o2 ++ [(s2.con w).ow]) k s1 (withP s3 s2.pas)) := S4.out.step HS3.out (T7.out.mono (by omega)) B7.out N7.out V7.out (by rw [List.append_assoc]; exact hr8) hg8 (by rw [World.size_alloc]; exact ho8) HBW.out
          obtain ⟨_, _, _, g4', _, _, g7'⟩ := ST.out.facts HC0.out HW0.out HND2.out
          have hK3 : (withP s3 s2.pas).lk k = some K := (g7' k HNT.out).trans HKS.out
          have KF : Hid (Calls Try.prog 30 #[.pointer (some ⟨K, 0, none⟩)] w8 fun e W' => e = .returned (pV (firstL ((withP s3 s2.pas).q 1 k) ((withP s3 s2.pas).q 2 k))) ∧ w8 = W') := first_any (ST.out.ft.qa _ K hK3 1 (by decide)) (ST.out.ft.qa _ K hK3 2 (by decide))
          obtain ⟨a8, c8, e8⟩ := ST.out.fv.len
          obtain ⟨a5, c5, e5⟩ := V7.out.len
          have HL5 : Hid (slen u5 = (os ++ o2).length) := by rw [e5]; rfl
          have HL8 : Hid (slen v8 = (os ++ o2).length + 1) := by rw [e8]; show (os ++ (o2 ++ [(s2.con w).ow])).length = _; simp only [List.length_append, List.length_singleton]; omega
          have HG4 : Hid ((os ++ o2).length + 1 ≤ c) := by
            have h1 : (os ++ (o2 ++ [(s2.con w).ow])).length ≤ c := g4'
            rw [← List.append_assoc, List.length_append, List.length_singleton] at h1
            exact h1
          clear hr8 hg8 ho8 T7 V7 B7 N7 hcl hbw7 hlen g4' g7' hK3 e8 e5 S4 HS3
          go_wp2_with fail
          refine KF.out.mono ?_
          rintro e w9 ⟨rfl, rfl⟩
          clear KF
          go_wp2
          go_roundw
          case rel => exact ⟨_, _, rfl, ST⟩
          case measure =>
            have h1 := HL5.out
            have h2 := HL8.out
            have h3 := HG4.out
            rw [h1, h2]
            omega
        · have HST : Hid (Stuck k s2) := fun w e => by
            cases h : freeB s2.con (s2.con w) (s2.q 0 k) with
            | false => rfl
            | true => exact absurd ⟨w, e, h⟩ hst
          have HG2 := Lib.hid g2
          have HK2 := Lib.hid hK2
          clear g1 g2 g3 g4 g5 g6 g7 hst
          cases hf : firstL (s2.q 1 k) (s2.q 2 k) with
          | none =>
            have S9 := si
            clear si
            rw [show pV none = .pointer none from rfl]
            have qh := (S9.out.ft.qa k K HK2.out 0 (by decide)).f
            by_cases hq0 : s2.q 0 k = []
            · rw [hq0] at qh
              replace qh : wx.cell? ⟨K, 0, none⟩ = some (.pointer none) := qh
              have t0 := S9.out.ft.t0
              obtain ⟨X, hdl, hmX, hgX, hsX⟩ := S9.out.ft.m0.drop lockMap k (show k.size ≤ maxLen by have := HSZ.out; unfold maxLen; omega) 0
              replace hdl : ∀ ty, (Builtin.delete_ #[56, 9] ty #[.map (some ml), .string k]).run Try.prog wx = .ok (.tuple #[]) X := fun _ => hdl
              have qall : ∀ i, s2.q i k = [] := fun i => by
                have e12 := List.append_eq_nil_iff.1 (List.head?_eq_none_iff.1 hf)
                match i with
                | 0 => exact hq0
                | 1 => exact e12.1
                | 2 => exact e12.2
                | i + 3 => exact HG2.out.q3 (i + 3) k (by omega)
              have tf := S9.out.ft.delLock qall hmX hgX
              rw [← finS_yes hq0] at tf
              have SF := Lib.hid (S9.out.fin HST.out tf (ownsRow_of S9.out.fv (fun g e => hgX.block g (by
                obtain ⟨⟨u, hu⟩, _⟩ := own0 S9.out.fv (by decide) (fun e => S9.out.f0 (List.length_eq_zero_iff.1 e)) g e
                exact block_lt (p := ⟨g, 0, none⟩) hu) (fun e2 => by
                injection e2 with e2
                obtain ⟨⟨u, hu⟩, _⟩ := own0 S9.out.fv (by decide) (fun e => S9.out.f0 (List.length_eq_zero_iff.1 e)) g e
                exact S9.out.ft.m0.ne hu e2.symm))) (S9.out.fb.trans (S9.out.ft.grownB S9.out.ft.bt.2.1 hgX)))
              rw [← HTK.out] at SF
              clear tf hmX hgX hsX qall S9
              go_wp2
              go_roundw
              case rel => exact ⟨j + 1, _, _, by go_num, HLT.out, SF⟩
              case measure => simp [intOf]; have := HLT.out; omega
            · obtain ⟨y, hy⟩ : ∃ y, (s2.q 0 k).head? = some y := by
                cases e : s2.q 0 k with
                | nil => exact absurd e hq0
                | cons y _ => exact ⟨y, rfl⟩
              rw [hy] at qh
              replace qh : wx.cell? ⟨K, 0, none⟩ = some (.pointer (some ⟨y, 0, none⟩)) := qh
              have SF := Lib.hid (S9.out.fin HST.out (by rw [finS_no hq0]; exact S9.out.ft) S9.out.fv S9.out.fb)
              rw [← HTK.out] at SF
              clear S9 hy
              go_wp2
              go_roundw
              case rel => exact ⟨j + 1, _, _, by go_num, HLT.out, SF⟩
              case measure => simp [intOf]; have := HLT.out; omega
          | some w =>
            have hwm : ∃ i, i < 3 ∧ w ∈ s2.q i k := by
              rcases List.mem_append.1 (List.mem_of_head? hf) with q | q
              · exact ⟨1, by decide, q⟩
              · exact ⟨2, by decide, q⟩
            obtain ⟨iw, hiw, hwq⟩ := hwm
            have KR := free_any s2.con (si.out.ft.qa k K hK2 0 (by decide)) (si.out.ft.wc iw k w hiw hwq) (fun z hz => si.out.ft.wc 0 k z (by decide) hz)
            rw [HST.out w hf] at KR
            have KR := Lib.hid KR
            rw [show pV (some w) = .pointer (some ⟨w, 0, none⟩) from rfl]
            clear hK2 hwq
            go_wp2_with fail
            refine KR.out.mono ?_
            rintro e w4 ⟨rfl, hb4⟩
            have S9 := Lib.hid (si.out.below hb4)
            clear KR hb4 si
            have qh := (S9.out.ft.qa k K HK2.out 0 (by decide)).f
            by_cases hq0 : s2.q 0 k = []
            · exfalso
              have h1 := HST.out w hf
              rw [hq0] at h1
              simp [freeB, endsL] at h1
            · obtain ⟨y, hy⟩ : ∃ y, (s2.q 0 k).head? = some y := by
                cases e : s2.q 0 k with
                | nil => exact absurd e hq0
                | cons y _ => exact ⟨y, rfl⟩
              rw [hy] at qh
              replace qh : w4.cell? ⟨K, 0, none⟩ = some (.pointer (some ⟨y, 0, none⟩)) := qh
              have SF := Lib.hid (S9.out.fin HST.out (by rw [finS_no hq0]; exact S9.out.ft) S9.out.fv S9.out.fb)
              rw [← HTK.out] at SF
              clear S9 hy
              go_wp2
              go_roundw
              case rel => exact ⟨j + 1, _, _, by go_num, HLT.out, SF⟩
              case measure => simp [intOf]; have := HLT.out; omega
    · obtain rfl : j = ks.length := by omega
      obtain ⟨_, _, _, _, f5, _, _⟩ := st.out.facts HC0.out HW0.out (HND.out.sublist (List.take_sublist _ _))
      have hv := st.out.fv
      have hv0 := st.out.f0
      have ht := st.out.ft
      have hp := st.out.fp
      rw [List.append_nil] at hv hv0 ht
      rw [List.take_length] at hp
      have hpas : s1.pas = p0 := f5
      have hnt : ∀ g, u5.ownBlock = some g → Nt (withP s1 s.pas) T g := fun g e => by
        have n1 := st.out.fn g e
        refine ⟨n1.t, n1.k, n1.x, ?_⟩
        cases e2 : s.pas g with
        | none => exact e2
        | some c =>
          have e3 := HP0.out g c e2
          have n2 := n1.p
          rw [hpas, e3] at n2; cases n2
      have HP : Hid (PgP B T ml mh mw n s ks W (.returned u5) wr) := ⟨u5, os, withP s1 s.pas, rfl, hv, hv0, hp.withP s.pas, ht.off s.pas (fun b c e => by rw [hpas]; exact HP0.out b c e), hnt, st.out.fb⟩
      clear hv hv0 ht hp hpas f5 st
      go_wp2
      go_ret
      exact HP.out
end
end Go.Proofs.Ytjojempjmpaaaaa
