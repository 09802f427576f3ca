/-
  append OF A ROW TO A ROW OF THE CALL'S OWN.
  A TABLE OF LOCKS: Free of any owners, Quit of any owner.
  A TABLE OF LOCKS: Quit of any owner.
-/
import Derived.Test.YtjojempjmpaaaaaLkPassG
import Derived.Laws.OwnMore
import Derived.Test.YtjojempjmpaaaaaLkGoAny
import Derived.Test.YtjojempjmpaaaaaLkm7
namespace Go.Proofs.Ytjojempjmpaaaaa
open Go.RowKit
theorem run_append_nil {P : Program} {w : World} (base : Nat) (t ty e : TypeId) (i : TypeInfo) (size : Nat) (ht : P.underlying t = some (.slice e)) (hi : P.info? e = some i)
    (v : Value) (n : Nat) (xs : List Value) (c : Nat) (hown : w.ownsRow base e size v n xs) :
    (Builtin.append_ #[t, t] ty #[v, .slice none 0 c]).run P w = .ok v w := by
  rcases hown.2 with ⟨rfl, rfl⟩ | ⟨g, cap, cur, rfl, _, _, hnc, _⟩
  · simp [Builtin.append_, run_underlying ht, sizeOf, typeInfo, hi, Builtin.lenOf, Builtin.firstCells]
  · simp [Builtin.append_, run_underlying ht, sizeOf, typeInfo, hi, Builtin.lenOf, Builtin.firstCells, hnc, storeCells]
theorem append_rows {w : World} {ops : Array Oper} {rest : List Oper} {o : Oper} {a : Act} {Q : Exit → Act → World → Prop} (hgd : o.guard = none) (s x : Operand) (t : TypeId)
    (ho : o.op = .call { callee := .builtin .append, args := #[s, x], argTypes := #[t, t] })
    (base : Nat) (e : TypeId) (i0 : TypeInfo) (z : Value) (size bytes : Nat) (ht : Try.prog.underlying t = some (.slice e)) (hi : Try.prog.info? e = some i0) (hz : i0.zero = some z) (hsize : i0.size = size) (hby : i0.bytes = bytes) (hzs : z.cells.size = size) (hsz : 0 < size)
    (v : Value) (n : Nat) (xs : List Value) (hs : a.eval s = v) (hown : w.ownsRow base e size v n xs)
    (vx : Value) (m : Nat) (ys : List Value) (hx : a.eval x = vx) (hy : (vx = .slice none 0 0 ∧ m = 0 ∧ ys = []) ∨ ∃ ad c, vx = .slice (some ad) m c ∧ ys.length = m * size ∧ (∀ j u, ys[j]? = some u → w.cell? (ad.add j) = some u) ∧ (∀ u ∈ ys, u.oneCell' = true))
    (h63 : n + m ≤ maxLen) (hbytes : (n + m) * bytes ≤ 140737488355328) (hbase : base ≤ w.heap.size)
    (h : ∀ v' w', w'.ownsRow base e size v' (n + m) (xs ++ ys) → w.grownBy w' v.ownBlock → (v' = .slice none 0 0 ↔ v = .slice none 0 0 ∧ m = 0) → (v'.ownBlock = v.ownBlock ∨ v'.ownBlock = some w.heap.size) → wpList Try.prog ops Q rest (a.put o.dst v') w') :
    wpList Try.prog ops Q (o :: rest) a w := by
  rcases hy with ⟨rfl, rfl, rfl⟩ | ⟨ad, c, rfl, hl, hc, h1⟩
  · have h1 := h v w (by rw [List.append_nil]; exact hown) ⟨rfl, rfl, rfl, Nat.le_refl _, fun _ _ _ => rfl⟩ ⟨fun e => ⟨e, rfl⟩, fun e => e.1⟩ (.inl rfl)
    refine wpList_plain hgd fun K hK => ?_
    have hrun := run_append_nil (P := Try.prog) (w := w) base t o.type e i0 size ht hi v n xs 0 hown
    unfold Oper.wp
    simp [execOp, ho, resolve, invoke, builtin, hs, hx, hrun, Result.andThen]
    exact hK _ _ h1
  · exact wpList_append_own_at _ hgd s x t ho base e i0 z size bytes ht hi hz hsize hby hzs hsz v n xs hs hown ad m c ys hx hl hc h1 h63 hbytes hbase h
theorem rowS_row {W : World} {B : Nat} {v : Value} {ts : List ByteArray} (h : RowS W B v ts) (h0 : ts = [] → v = .slice none 0 0) : (v = .slice none 0 0 ∧ ts.length = 0 ∧ ts.map Value.string = []) ∨ ∃ ad c, v = .slice (some ad) ts.length c ∧ (ts.map Value.string).length = ts.length * 1 ∧ (∀ j u, (ts.map Value.string)[j]? = some u → W.cell? (ad.add j) = some u) ∧ (∀ u ∈ ts.map Value.string, u.oneCell' = true) := by
  by_cases e : ts = []
  · subst e
    exact .inl ⟨h0 rfl, rfl, rfl⟩
  · obtain ⟨g, c, rfl, _, hc⟩ := h.cells (List.length_pos_iff.2 e)
    refine .inr ⟨_, c, rfl, by simp, fun j u hj => ?_, fun u hu => ?_⟩
    · have hj2 : j < ts.length := by
        have := (List.getElem?_eq_some_iff.1 hj).1
        simpa using this
      rw [List.getElem?_map, List.getElem?_eq_getElem hj2] at hj
      have := hc j hj2
      rw [List.getD_eq_getElem?_getD, List.getElem?_eq_getElem hj2] at this
      rw [show (⟨g, 0, none⟩ : Addr).add j = ⟨g, j, none⟩ by simp [Addr.add]; exact fun e => e.symm, this]
      exact hj
    · obtain ⟨t, _, rfl⟩ := List.mem_map.1 hu
      rfl
/-- append of texts to texts. -/
theorem append_ss {w : World} {ops : Array Oper} {rest : List Oper} {o : Oper} {a : Act} {Q : Exit → Act → World → Prop} (hgd : o.guard = none) (s x : Operand)
    (ho : o.op = .call { callee := .builtin .append, args := #[s, x], argTypes := #[85, 85] })
    (B B2 : Nat) (v vx : Value) (ts us : List ByteArray) (hs : a.eval s = v) (hown : RowS w B v ts) (hx : a.eval x = vx) (hox : RowS w B2 vx us) (h0 : us = [] → vx = .slice none 0 0) (h10 : ts.length + us.length ≤ 1000000) (hB : B ≤ w.heap.size)
    (h : ∀ v' w', RowS w' B v' (ts ++ us) → w.grownBy w' v.ownBlock → (v' = .slice none 0 0 ↔ v = .slice none 0 0 ∧ us.length = 0) → (v'.ownBlock = v.ownBlock ∨ v'.ownBlock = some w.heap.size) → wpList Try.prog ops Q rest (a.put o.dst v') w') :
    wpList Try.prog ops Q (o :: rest) a w := by
  obtain ⟨i0, hi, hzz⟩ := Option.map_eq_some_iff.1 infoS
  simp only [Prod.mk.injEq] at hzz
  obtain ⟨hz0, hz1, hz2⟩ := hzz
  refine append_rows hgd s x 85 ho B 9 i0 (.string ⟨#[]⟩) 1 16 Try.underlying85 hi hz0 hz1 hz2 rfl (by decide) v ts.length (ts.map Value.string) hs hown vx us.length (us.map Value.string) hx (rowS_row hox h0) (by unfold maxLen; omega) (by omega) hB (fun v' w' h1 h2 h3 h4 => h v' w' ?_ h2 h3 h4)
  unfold RowS
  rw [List.length_append, List.map_append]; exact h1
end Go.Proofs.Ytjojempjmpaaaaa

namespace Go.Proofs.Ytjojempjmpaaaaa
open Go.RowKit
section
variable {B : Nat} {W X : World} {T ml mh mw n : Nat} {s : Lk}
/-- The walk of Free. -/
structure FrW (B : Nat) (W wr : World) (T ml mh mw n : Nat) (s : Lk) (p0 : Nat → Option Obj) (os : List Int) (j : Nat) (v : Value) (kl : List ByteArray) : Prop where
  t : LkAt B wr T ml mh mw (n + j) (withP (goneL s (os.take j)) p0)
  row : RowS wr W.heap.size v kl
  f0 : kl = [] → v = .slice none 0 0
  fn : ∀ g, v.ownBlock = some g → Nt (withP (goneL s (os.take j)) p0) T g
  hk : ∀ k, k ∈ kl → s.lk k ≠ none ∧ k.size ≤ 100
  oth : ∀ k, k ∉ kl → SameAt s (goneL s (os.take j)) k
  len : kl.length ≤ j * (n + 102)
  bw : Below B W wr
/-- What Free leaves. -/
def FrP (B : Nat) (T ml mh mw n : Nat) (s : Lk) (os : List Int) (W : World) (e : Ending) (W' : World) : Prop :=
  ∃ v kl ps s', e = .returned v ∧ RowI W' W.heap.size v ps ∧ (ps = [] → v = .slice none 0 0) ∧ PassL (goneL s os) (keysL kl) ps s' ∧ LkAt B W' T ml mh mw (n + os.length + 3 * ps.length) s' ∧ s'.pas = s.pas ∧ (∀ g, v.ownBlock = some g → Nt s' T g) ∧ (∀ k, k ∉ kl → SameAt s (goneL s os) k) ∧ Below B W W'
theorem FrW.go {wr w2 : World} {p0 : Nat → Option Obj} {os : List Int} {j : Nat} {v : Value} {kl kl2 : List ByteArray} {o : Int} (h : FrW B W wr T ml mh mw n s p0 os j v kl) (hc : LkC s) (hj : j < os.length) (ho : os[j] = o) (hj2 : os.length ≤ 100)
    (t2 : LkAt B w2 T ml mh mw (n + j + 1) (goneT (withP (goneL s (os.take j)) (rideP p0 v wr)) o)) (hkl2 : ∀ k, k ∈ kl2 ↔ keysOf (goneL s (os.take j)) o k) (hl2 : kl2.length ≤ n + j + 2) (hb2 : Below B wr w2) :
    LkAt B w2 T ml mh mw (n + (j + 1)) (withP (goneL s (os.take (j + 1))) p0) ∧ RowS w2 W.heap.size v kl ∧ (∀ g, v.ownBlock = some g → Nt (withP (goneL s (os.take (j + 1))) p0) T g) ∧ (∀ k, k ∈ kl ++ kl2 → s.lk k ≠ none ∧ k.size ≤ 100) ∧ (∀ k, k ∉ kl ++ kl2 → SameAt s (goneL s (os.take (j + 1))) k) ∧ (kl ++ kl2).length ≤ (j + 1) * (n + 102) ∧ Below B W w2 := by
  have et : os.take (j + 1) = os.take j ++ [o] := by rw [List.take_succ_eq_append_getElem hj, ho]
  have e1 : goneL s (os.take (j + 1)) = goneT (goneL s (os.take j)) o := by rw [et, goneL_snoc]
  have hs2 : (goneT (withP (goneL s (os.take j)) (rideP p0 v wr)) o).pas = rideP p0 v wr := rfl
  have own := own0 h.row (by decide) (fun e => h.f0 (List.length_eq_zero_iff.1 e))
  have rd := fun g (e : v.ownBlock = some g) => t2.rode hs2 e (own g e).2.2 (h.fn g e).p
  have t3 := t2.unride hs2 (fun g e => (h.fn g e).p)
  obtain ⟨g1, g2, _, _, _, _⟩ := goneL_all (os := os.take j) hc
  refine ⟨by rw [e1]; exact t3, ownsRow_of h.row (fun g e => (rd g e).1), fun g e => by rw [e1]; exact (rd g e).2, fun k hk => ?_, fun k hk => ?_, ?_, h.bw.trans hb2⟩
  · rcases List.mem_append.1 hk with c | c
    · exact h.hk k c
    · have := keysOf_lk (s := withP (goneL s (os.take j)) p0) h.t (g1.withP p0) (o := o) (k := k) ((hkl2 k).1 c)
      rw [show (withP (goneL s (os.take j)) p0).lk = s.lk from g2] at this
      exact this
  · rw [List.mem_append] at hk
    rw [e1]
    exact (h.oth k (fun c => hk (.inl c))).trans (goneT_same g1 (fun c => hk (.inr ((hkl2 k).2 c))))
  · rw [List.length_append, Nat.add_mul, Nat.one_mul]
    have := h.len
    omega
theorem FrW.app {w2 w3 : World} {p0 : Nat → Option Obj} {os : List Int} {j : Nat} {v v' : Value} {kl kl3 : List ByteArray}
    (t : LkAt B w2 T ml mh mw (n + j) (withP (goneL s (os.take j)) p0)) (hr : RowS w2 W.heap.size v kl) (h0 : kl = [] → v = .slice none 0 0) (hn : ∀ g, v.ownBlock = some g → Nt (withP (goneL s (os.take j)) p0) T g) (hk : ∀ k, k ∈ kl3 → s.lk k ≠ none ∧ k.size ≤ 100) (ho : ∀ k, k ∉ kl3 → SameAt s (goneL s (os.take j)) k) (hl : kl3.length ≤ j * (n + 102)) (hb : Below B W w2) (hBW : B ≤ W.heap.size)
    (hr3 : RowS w3 W.heap.size v' kl3) (h03 : kl3 = [] → v' = .slice none 0 0) (hg : w2.grownBy w3 v.ownBlock) (hv : v'.ownBlock = v.ownBlock ∨ v'.ownBlock = some w2.heap.size) : FrW B W w3 T ml mh mw n s p0 os j v' kl3 := by
  have own := own0 hr (by decide) (fun e => h0 (List.length_eq_zero_iff.1 e))
  obtain ⟨t3, b3, n3⟩ := t.appended (v := v) (v' := v') (fun g e => ⟨hn g e, (own g e).1, Nat.le_trans hBW (own g e).2.1⟩) hg hv
  exact ⟨t3, hr3, h03, n3, hk, ho, hl, hb.trans b3⟩
set_option maxRecDepth 100000 in
set_option maxHeartbeats 4000000 in
theorem free_all (h : LkAt B W T ml mh mw n s) (hc : LkC s) {c : Nat} (hw : Wn s c) {g cap : Nat} {os : List Int} (hg : Nt s T g) (hcell : ∀ i, i < os.length → W.cell? ⟨g, i, none⟩ = some (.int .i64 (os.getD i 0))) (h0 : 0 < os.length) (hwf : ∀ o, o ∈ os → (Lit.int .i64 o).wf = true) (hl : os.length ≤ 20) (hn : n ≤ 4000) (hcw : c ≤ 4000) :
    Calls Try.prog 14 #[.pointer (some ⟨T, 0, none⟩), .slice (some ⟨g, 0, none⟩) os.length cap] W (FrP B T ml mh mw n s os W) := by
  have KM := Lib.hid (made_any h)
  have hr := h.ride (v := .slice (some ⟨g, 0, none⟩) os.length cap) (fun g' e => by injection e with e; subst e; exact ⟨hg, 0, _, hcell 0 h0⟩)
  have hp0 : rideP s.pas (.slice (some ⟨g, 0, none⟩) os.length cap) W g = W.heap[g]? := if_pos rfl
  obtain ⟨c0, hc0⟩ : ∃ c0, W.heap[g]? = some c0 := ⟨_, Array.getElem?_eq_getElem (block_lt (p := ⟨g, 0, none⟩) (hcell 0 h0))⟩
  have HP0 : Hid (∀ b c, s.pas b = some c → rideP s.pas (.slice (some ⟨g, 0, none⟩) os.length cap) W b = some c) := fun b c e => by
    unfold rideP
    rw [if_neg (fun q => ?_)]
    · exact e
    · injection q with q
      subst q
      rw [hg.p] at e; cases e
  have HCL : Hid (∀ wr n' s', LkAt B wr T ml mh mw n' s' → s'.pas = rideP s.pas (.slice (some ⟨g, 0, none⟩) os.length cap) W → ∀ i, i < os.length → wr.cell? ⟨g, i, none⟩ = some (.int .i64 (os.getD i 0))) := fun wr n' s' ht hp i hi => by
    have e2 : s'.pas g = some c0 := by rw [hp, hp0, hc0]
    exact (World.cell?_of_block (a := ⟨g, i, none⟩) ((ht.ps.pa _ _ e2).trans hc0.symm)).trans (hcell i hi)
  generalize rideP s.pas (.slice (some ⟨g, 0, none⟩) os.length cap) W = p0 at *
  have S0 : Hid (FrW B W W T ml mh mw n s p0 os 0 (.slice none 0 0) []) := ⟨hr, RowS.none _ _, fun _ => rfl, fun g e => by (cases e), fun k e => by (cases e), fun k _ => by rw [List.take_zero]; exact SameAt.refl _ _, by simp, Below.refl _ _⟩
  have HC := Lib.hid hc
  have HW := Lib.hid hw
  have HBW := Lib.hid h.lts
  have HWF := Lib.hid hwf
  have hl2 : (os.length : Int) ≤ 20 := by omega
  clear h hc hw hg hcell hwf hr hp0 hc0
  go_enter Try.func14, Try.ntmps14
  go_wp2_with fail
  refine KM.out.mono ?_
  rintro e w1 ⟨rfl, rfl⟩
  clear KM
  go_wp2
  go_loopw [5, 7, 13] (fun v _ i wr => ∃ (j : Nat) (kl : List ByteArray), i = .int .i64 (j : Int) ∧ j ≤ os.length ∧ Hid (FrW B W wr T ml mh mw n s p0 os j v kl)) (fun _ _ i _ => os.length - (intOf i).toNat)
  case atStart => exact ⟨0, [], rfl, Nat.zero_le _, S0⟩
  case round =>
    obtain ⟨j, kl, rfl, hj, st⟩ := hrel
    rename World => wr
    clear S0
    by_cases hlt : j < os.length
    · have hcj := HCL.out wr _ _ st.out.t rfl j hlt
      have hoj : os.getD j 0 = os[j] := by rw [List.getD_eq_getElem?_getD, List.getElem?_eq_getElem hlt]; rfl
      rw [hoj] at hcj
      have hwo := HWF.out os[j] (List.getElem_mem hlt)
      have own := own0 st.out.row (by decide) (fun e => st.out.f0 (List.length_eq_zero_iff.1 e))
      have ht1 := st.out.t.ride (v := u5) (fun g e => ⟨st.out.fn g e, 0, (own g e).1⟩)
      have KG := Lib.hid (letGo_any ht1 (((goneL_all (os := os.take j) HC.out).1.withP _).withP _) hwo (by omega))
      have HOJ : ∃ o, os[j] = o := ⟨_, rfl⟩
      obtain ⟨o, hoe⟩ := HOJ
      rw [hoe] at hcj KG hwo
      have HLT := Lib.hid hlt
      have HOE := Lib.hid hoe
      clear own ht1 hoj
      go_wp2_with fail
      refine KG.out.mono ?_
      rintro e w2 ⟨v2, kl2, rfl, hr2, h02, ht2, _, hk2, hl2', hb2⟩
      have hsz : wr.heap.size ≤ w2.heap.size := hb2.size
      have hs1 : W.heap.size ≤ wr.heap.size := st.out.bw.size
      obtain ⟨t3, r3, n3, k3, o3, l3, b3⟩ := st.out.go HC.out HLT.out HOE.out (by omega) ht2 hk2 hl2' hb2
      have hlen : kl.length + kl2.length ≤ 1000000 := by
        rw [List.length_append] at l3
        have q1 : j + 1 ≤ 20 := by omega
        have q2 := Nat.mul_le_mul q1 (Nat.le_refl (n + 102))
        omega
      have T3 := Lib.hid t3
      have R3 := Lib.hid r3
      have N3 := Lib.hid n3
      have K3 := Lib.hid k3
      have O3 := Lib.hid o3
      have L3 := Lib.hid l3
      have B3 := Lib.hid b3
      have HR2 := Lib.hid hr2
      have H02 := Lib.hid h02
      have hB3 : W.heap.size ≤ w2.heap.size := Nat.le_trans hs1 hsz
      clear t3 r3 n3 k3 o3 l3 b3 hr2 h02 ht2 hk2 hl2' hb2 KG hcj
      go_wp2_with (at_builtin; refine append_ss rfl _ _ rfl W.heap.size wr.heap.size u5 v2 kl kl2 rfl R3.out rfl HR2.out H02.out hlen hB3 ?_)
      intro v4 w4 hr4 hg4 h04 ho4
      have ST : Hid (FrW B W w4 T ml mh mw n s p0 os (j + 1) v4 (kl ++ kl2)) := FrW.app T3.out R3.out st.out.f0 N3.out K3.out O3.out L3.out B3.out HBW.out hr4 (fun e => by
        have e2 := List.append_eq_nil_iff.1 e
        exact h04.2 ⟨st.out.f0 e2.1, by rw [e2.2]⟩) hg4 ho4
      clear hr4 hg4 h04 ho4 T3 R3 N3 K3 O3 L3 B3 HR2 H02 st
      go_wp2
      go_roundw
      case rel => exact ⟨j + 1, _, by go_num, HLT.out, ST⟩
      case measure => simp [intOf]; have := HLT.out; omega
    · obtain rfl : j = os.length := by omega
      obtain ⟨q1, q2, q3, q4, q5, q6⟩ := goneL_all (os := os) HC.out
      have hst := st
      have ht := st.out.t
      have hrow := st.out.row
      have hf0 := st.out.f0
      have hfn := st.out.fn
      have hhk := st.out.hk
      have hoth := st.out.oth
      have hlen := st.out.len
      rw [List.take_length] at ht hfn hoth
      have KP := Lib.hid (pass_any ht (q1.withP p0) (c := c) ((HW.out.sub q5) : Wn (withP (goneL s os) p0) c) (row_mono hrow (HBW.out)) hf0 hfn (by
        have q2 := Nat.mul_le_mul hl (Nat.le_refl (n + 102))
        omega) (fun k hk => by
        rw [show (withP (goneL s os) p0).lk = s.lk from q2]
        exact hhk k hk) (by omega))
      have HOTH := Lib.hid hoth
      have HBW2 := Lib.hid st.out.bw
      clear hst ht hrow hf0 hfn hhk hoth hlen st q1 q2 q3 q4 q5 q6
      go_wp2_with fail
      refine KP.out.mono ?_
      rintro e w4 ⟨v4, ps, s4, rfl, hr4, h04, hp4, ht4, hn4, hb4⟩
      have hpas : s4.pas = p0 := hp4.pas
      have hp5 := hp4.withP s.pas
      have ht5 := ht4.off s.pas (fun b c e => by rw [hpas]; exact HP0.out b c e)
      have e5 : withP (withP (goneL s os) p0) s.pas = goneL s os := by
        have := (goneL_all (os := os) HC.out).2.2.2.1
        rw [← this]; rfl
      rw [e5] at hp5
      have hr5 : RowI w4 W.heap.size v4 ps := ⟨hr4.1, hr4.2.imp id fun ⟨g, cap, cur, q1, q2, q3⟩ => ⟨g, cap, cur, q1, Nat.le_trans HBW2.out.size q2, q3⟩⟩
      have hn5 : ∀ g', v4.ownBlock = some g' → Nt (withP s4 s.pas) T g' := fun g' e => by
        have n1 := hn4 g' e
        refine ⟨n1.t, n1.k, n1.x, ?_⟩
        cases e2 : s.pas g' with
        | none => exact e2
        | some c =>
          have e3 := HP0.out g' c e2
          have n2 := n1.p
          rw [hpas, e3] at n2; cases n2
      have HF : Hid (FrP B T ml mh mw n s os W (.returned v4) w4) := ⟨v4, kl, ps, _, rfl, hr5, h04, hp5, ht5, rfl, hn5, HOTH.out, HBW2.out.trans hb4⟩
      clear hr4 h04 hp4 ht4 hn4 hb4 hpas hp5 ht5 e5 hr5 hn5 KP
      go_wp2
      go_ret
      exact HF.out
end
end Go.Proofs.Ytjojempjmpaaaaa

namespace Go.Proofs.Ytjojempjmpaaaaa
open Go.RowKit
section
variable {B : Nat} {W X : World} {T ml mh mw n : Nat} {s : Lk} {o : Int}
set_option maxRecDepth 100000 in
set_option maxHeartbeats 2000000 in
theorem quit_no (h : LkAt B W T ml mh mw n s) (hwf : (Lit.int .i64 o).wf = true) (hw : s.wt o = none) :
    Calls Try.prog 13 #[.pointer (some ⟨T, 0, none⟩), .int .i64 o] W fun e W' => e = .returned (.slice none 0 0) ∧ W = W' := by
  have KM := Lib.hid (made_any h)
  have l2 := h.m2.look waitsMap o hwf
  rw [hw] at l2
  replace l2 : (Instr.lookup 58 (.map (some mw)) (.int .i64 o) false).run Try.prog W = .ok (.pointer none) W := l2
  have t2 := h.t2
  clear h hw
  go_enter Try.func13, Try.ntmps13
  go_wp2_with fail
  refine KM.out.mono ?_
  rintro e w1 ⟨rfl, rfl⟩
  clear KM
  go_wp2
  go_ret
  exact ⟨rfl, rfl⟩
/-- What Quit leaves. -/
def QuP (B : Nat) (T ml mh mw n : Nat) (s : Lk) (o : Int) (k : ByteArray) (W : World) (e : Ending) (W' : World) : Prop :=
  ∃ v ps s', e = .returned v ∧ RowI W' W.heap.size v ps ∧ (ps = [] → v = .slice none 0 0) ∧ PassL (leftT s o) (keysL [k]) ps s' ∧ LkAt B W' T ml mh mw (n + 1 + 3 * ps.length) s' ∧ (∀ g, v.ownBlock = some g → Nt s' T g) ∧ Below B W W'
set_option maxRecDepth 100000 in
set_option maxHeartbeats 2000000 in
theorem quit_yes (h : LkAt B W T ml mh mw n s) (hc : LkC s) (hwf : (Lit.int .i64 o).wf = true) {w1 : Nat} (hwt : s.wt o = some w1) {c : Nat} (hw : Wn s c) (hn : n + 1 + 3 * c ≤ 1000000) :
    Calls Try.prog 13 #[.pointer (some ⟨T, 0, none⟩), .int .i64 o] W (QuP B T ml mh mw n s o (s.con w1).k W) := by
  have KM := Lib.hid (made_any h)
  obtain ⟨ho, i, hi, hq⟩ := hc.ok.w1 o w1 hwt
  obtain ⟨q1, q2, he⟩ := List.append_of_mem hq
  obtain ⟨K1, hK1⟩ := h.lk_some hq
  have eL := Lib.hid (leftT_some hc hi he ho)
  have hks := (hc.ok.ck i _ w1 (lt3 hi) hq).2.1
  have t2 := h.t2
  have l2 := h.m2.look waitsMap o hwf
  rw [hwt] at l2
  replace l2 : (Instr.lookup 58 (.map (some mw)) (.int .i64 o) false).run Try.prog W = .ok (.pointer (some ⟨w1, 0, none⟩)) W := l2
  have hcase : (i = 1 ∧ s.hd (s.con w1).ow (s.con w1).k ≠ none) ∨ (i = 2 ∧ s.hd (s.con w1).ow (s.con w1).k = none) := by
    rcases hi with rfl | rfl
    · exact .inl ⟨rfl, hc.ok.r1 _ _ hq⟩
    · exact .inr ⟨rfl, hc.ok.r2 _ _ hq⟩
  have KL := leave_g h hcase hK1 he rfl (show (s.con w1).k.size ≤ maxLen by unfold maxLen; omega) (by rw [ho]; exact hwf)
  rw [ho, ← eL.out] at KL
  have KL := Lib.hid KL
  have HC1 := Lib.hid (hc.leftT (o := o)).1
  have HW := Lib.hid (hw.sub (s' := leftT s o) (fun i k y hy => by
    by_cases e : i = 0
    · subst e; exact hy
    · have hy : y ∈ if i = 0 then s.q 0 k else fl s.con o (s.q i k) := hy
      rw [if_neg e] at hy
      exact (mem_fl.1 hy).1))
  have HKK := Lib.hid (keysOf_lk h hc (o := o) (k := (s.con w1).k) (.inl ⟨w1, hwt, rfl⟩))
  have hK : ∃ k1, (s.con w1).k = k1 := ⟨_, rfl⟩
  obtain ⟨k1, hk1⟩ := hK
  rw [hk1] at HKK ⊢
  have HK1 := Lib.hid hk1
  clear h hwt hc hcase hi hq he hK1 hks ho hw
  go_enter Try.func13, Try.ntmps13
  go_wp2_with fail
  refine KM.out.mono ?_
  rintro e w0 ⟨rfl, rfl⟩
  clear KM
  go_wp2_with fail
  refine KL.out.mono ?_
  rintro e wa ⟨rfl, ha, fa, _, ba⟩
  have ca := fa.c.c0
  rw [hk1] at ca
  have hsa : W.heap.size ≤ wa.heap.size := ba.size
  have bal : Below wa.heap.size wa (wa.alloc (.cells #[.string k1] 9)) := (Below.refl _ _).alloc (Nat.le_refl _) _
  have hr : RowS (wa.alloc (.cells #[.string k1] 9)) B (.slice (some ⟨wa.heap.size, 0, none⟩) 1 1) [k1] := World.ownsRow_lit wa #[.string k1] 1 ha.lts (by decide) rfl
  have KP := Lib.hid (pass_any (ha.below bal) HC1.out HW.out hr (fun e => by cases e) (fun g e => by injection e with e; subst e; exact ha.nt_new (Nat.le_refl _)) (by simp) (fun k hk => by rw [List.mem_singleton.1 hk]; exact HKK.out) hn)
  have HA := Lib.hid ha
  have BA := Lib.hid (ba.trans (bal.mono ha.lts))
  have hsb : wa.heap.size ≤ (wa.alloc (.cells #[.string k1] 9)).heap.size := bal.size
  clear ha fa ba KL l2 t2 bal hr
  go_wp2_with fail
  refine KP.out.mono ?_
  rintro e w4 ⟨v4, ps, s4, rfl, hr4, h04, hp4, ht4, hn4, hb4⟩
  have HF : Hid (QuP B T ml mh mw n s o k1 W (.returned v4) w4) := ⟨v4, ps, s4, rfl, ⟨hr4.1, hr4.2.imp id fun ⟨g, cap, cur, q1, q2, q3⟩ => ⟨g, cap, cur, q1, by omega, q3⟩⟩, h04, hp4, ht4, hn4, BA.out.trans hb4⟩
  clear hr4 h04 hp4 ht4 hn4 hb4 KP
  go_wp2
  go_ret
  exact HF.out
end
end Go.Proofs.Ytjojempjmpaaaaa
