/-
  A TABLE OF LOCKS: a key's line; Line.
  A TABLE OF LOCKS: who waits for whom at one key.
  A TABLE OF LOCKS: Edges.
-/
import Derived.Test.YtjojempjmpaaaaaLkm9
import Derived.Test.YtjojempjmpaaaaaLkAll
import Derived.Test.YtjojempjmpaaaaaLkGoAny
import Derived.Deep.RegionLaw
import Derived.StillTailTactics
namespace Go.Proofs.Ytjojempjmpaaaaa
open Go.RowKit
/-- A row as what is appended. -/
theorem row_src {w : World} {B : Nat} {e : TypeId} {sz : Nat} {v : Value} {n : Nat} {xs : List Value} (h : w.ownsRow B e sz v n xs) (h1 : ∀ u ∈ xs, u.oneCell' = true) : (v = .slice none 0 0 ∧ n = 0 ∧ xs = []) ∨ ∃ ad c, v = .slice (some ad) n c ∧ xs.length = n * sz ∧ (∀ j u, xs[j]? = some u → w.cell? (ad.add j) = some u) ∧ (∀ u ∈ xs, u.oneCell' = true) := by
  have hl := h.1
  rcases h.2 with ⟨hv, hn⟩ | ⟨g, cap, cur, hv, _⟩
  · exact .inl ⟨hv, hn, List.length_eq_zero_iff.1 (by rw [hl, hn, Nat.zero_mul])⟩
  · exact .inr ⟨_, cap, hv, hl, h.cells (by rw [hv]; rfl), h1⟩
theorem ptrs_one {l : List Nat} : ∀ u ∈ ptrs l, u.oneCell' = true := fun u hu => by
  obtain ⟨x, _, rfl⟩ := List.mem_map.1 hu
  rfl
theorem append_pp {w : World} {ops : Array Oper} {rest : List Oper} {o : Oper} {a : Act} {Q : Exit → Act → World → Prop} (hgd : o.guard = none) (s x : Operand)
    (ho : o.op = .call { callee := .builtin .append, args := #[s, x], argTypes := #[92, 92] })
    (B B2 : Nat) (v vx : Value) (l m : List Nat) (hs : a.eval s = v) (hown : RowP w B v l) (hx : a.eval x = vx) (hox : RowP w B2 vx m) (h10 : l.length + m.length ≤ 1000000) (hB : B ≤ w.heap.size)
    (h : ∀ v' w', RowP w' B v' (l ++ m) → w.grownBy w' v.ownBlock → (v'.ownBlock = v.ownBlock ∨ v'.ownBlock = some w.heap.size) → wpList Try.prog ops Q rest (a.put o.dst v') w') :
    wpList Try.prog ops Q (o :: rest) a w := by
  obtain ⟨i0, hi, hzz⟩ := Option.map_eq_some_iff.1 infoP
  simp only [Prod.mk.injEq] at hzz
  obtain ⟨hz0, hz1, hz2⟩ := hzz
  refine append_rows hgd s x 92 ho B 72 i0 (.pointer none) 1 8 Try.underlying92 hi hz0 hz1 hz2 rfl (by decide) v l.length (ptrs l) hs hown vx m.length (ptrs m) hx (row_src hox ptrs_one) (by unfold maxLen; omega) (by omega) hB (fun v' w' h1 h2 _ h4 => h v' w' ?_ h2 h4)
  unfold RowP ptrs
  rw [List.length_append, List.map_append]; exact h1
theorem append_p2 {w : World} {ops : Array Oper} {rest : List Oper} {o : Oper} {a : Act} {Q : Exit → Act → World → Prop} (hgd : o.guard = none) (s x : Operand)
    (ho : o.op = .call { callee := .builtin .append, args := #[s, x], argTypes := #[92, 92] })
    (B : Nat) (v : Value) (l : List Nat) (ad : Addr) (t : Nat) (c : Nat) (hs : a.eval s = v) (hown : RowP w B v l) (hx : a.eval x = .slice (some ad) 1 c) (hc : w.cell? (ad.add 0) = some (.pointer (some ⟨t, 0, none⟩))) (h10 : l.length ≤ 1000000) (hB : B ≤ w.heap.size)
    (h : ∀ v' w', RowP w' B v' (l ++ [t]) → w.grownBy w' v.ownBlock → (v'.ownBlock = v.ownBlock ∨ v'.ownBlock = some w.heap.size) → wpList Try.prog ops Q rest (a.put o.dst v') w') :
    wpList Try.prog ops Q (o :: rest) a w := by
  obtain ⟨i0, hi, hzz⟩ := Option.map_eq_some_iff.1 infoP
  simp only [Prod.mk.injEq] at hzz
  obtain ⟨hz0, hz1, hz2⟩ := hzz
  refine wpList_append_own_at _ hgd s x 92 ho B 72 i0 (.pointer none) 1 8 Try.underlying92 hi hz0 hz1 hz2 rfl (by decide) v l.length (ptrs l) hs hown ad 1 c [.pointer (some ⟨t, 0, none⟩)] hx rfl ?_ ?_ (by unfold maxLen; omega) (by omega) hB (fun v' w' h1 h2 _ h4 => h v' w' ?_ h2 h4)
  · intro j u' hj
    match j, hj with
    | 0, hj => simp at hj; subst hj; exact hc
  · intro u' hu; simp at hu; subst hu; rfl
  · unfold RowP ptrs
    rw [List.length_append, List.map_append]; exact h1
/-- append of waiters to waiters, as a step of a region that draws. -/
theorem step_append_pp {ops : Array Oper} {o : Oper} {a : Act} {w : World} {K : Act → World → Prop} {Q : Exit → Act → World → Prop} {E : Prop}
    (hg : o.guard = none) (s x : Operand) (hop : o.op = Op.call { callee := Callee.builtin Builtin.append, args := #[s, x], argTypes := #[92, 92] })
    (B B2 : Nat) (v vx : Value) (l m : List Nat) (hs : a.eval s = v) (hown : RowP w B v l) (hx : a.eval x = vx) (hox : RowP w B2 vx m) (h10 : l.length + m.length ≤ 1000000) (hB : B ≤ w.heap.size)
    (hK : ∀ v' w', RowP w' B v' (l ++ m) → w.grownBy w' v.ownBlock → (v'.ownBlock = v.ownBlock ∨ v'.ownBlock = some w.heap.size) → K (a.put o.dst v') w') :
    if Region.wanted o (yielded ops a.tmps) = true then Oper.wp Try.prog o a w K Q else E := by
  have hw : Region.wanted o (yielded ops a.tmps) = true := by simp [Region.wanted, hg]
  rw [if_pos hw]
  obtain ⟨i0, hi, hzz⟩ := Option.map_eq_some_iff.1 infoP
  simp only [Prod.mk.injEq] at hzz
  obtain ⟨hz0, hz1, hz2⟩ := hzz
  rcases row_src hox ptrs_one with ⟨rfl, hm0, hy0⟩ | ⟨ad, c, rfl, hl, hc, h1⟩
  · have e : m = [] := List.length_eq_zero_iff.1 hm0
    subst e
    have hrun := run_append_nil (P := Try.prog) (w := w) B 92 o.type 72 i0 1 Try.underlying92 hi v l.length (ptrs l) 0 hown
    unfold Oper.wp
    simp [execOp, hop, resolve, invoke, builtin, hs, hx, hrun, Result.andThen]
    exact hK v w (by rw [List.append_nil]; exact hown) ⟨rfl, rfl, rfl, Nat.le_refl _, fun _ _ _ => rfl⟩ (.inl rfl)
  · obtain ⟨v', w', hrun, r1, r2, _, r4⟩ := run_append_own_at (P := Try.prog) w B 92 o.type 72 i0 _ 1 8 Try.underlying92 hi hz0 hz1 hz2 rfl (by decide) v l.length (ptrs l) hown ad m.length c (ptrs m) hl hc h1 (by unfold maxLen; omega) (by omega) hB
    unfold Oper.wp
    simp [execOp, hop, resolve, invoke, builtin, hs, hx, hrun, Result.andThen]
    refine hK v' w' ?_ r2 r4
    unfold RowP ptrs
    rw [List.length_append, List.map_append]
    exact r1
section
variable {B : Nat} {W X : World} {T ml mh mw n K : Nat} {s : Lk} {q1 q2 : List Nat}
set_option maxRecDepth 100000 in
set_option maxHeartbeats 1000000 in
theorem line_row (h1 : QAt W K 2 q1) (h2 : QAt W K 4 q2) (hl : q1.length + q2.length ≤ 100000) :
    Calls Try.prog 44 #[.pointer (some ⟨K, 0, none⟩)] W fun e W' => ∃ v, e = .returned v ∧ RowP W' W.heap.size v (q1 ++ q2) ∧ Below W.heap.size W W' := by
  have hbd : Below W.heap.size W W.drew := (Below.refl _ _).drew
  have K1 := Lib.hid (all_any (h1.below hbd) (by omega))
  have K2 := Lib.hid (fun X (hX : Below W.heap.size W X) => all_any (h2.below hX) (by omega))
  clear h1 h2
  have HBD := Lib.hid hbd
  clear hbd
  go_enter Try.func44, Try.ntmps44
  go_upto_region 1 with fail
  go_region_law ((first
    | (go_simp; go_at_call 62; (with_reducible refine K1.out.mono ?_); rintro x w1 ⟨v1, rfl, hr1, hb1⟩; have HB1 := Lib.hid (HBD.out.trans hb1); have HR1 := Lib.hid hr1; have HZ : Hid (w1 = w1) := rfl; clear hb1 hr1; go_simp)
    | (go_simp; go_at_call 62; (with_reducible refine (K2.out _ HB1.out).mono ?_); rintro x w2 ⟨v2, rfl, hr2, hb2⟩; have HR2 := Lib.hid hr2; have HR3 := Lib.hid (HR1.out.below hb2); have HB2 := Lib.hid (HB1.out.trans (hb2.mono HB1.out.size)); clear hb2 hr2; go_simp)
    | (refine step_append_pp (by rfl) _ _ (by rfl) W.heap.size w1.heap.size v1 v2 q1 q2 (by rfl) HR3.out (by rfl) HR2.out (by omega) HB2.out.size ?_; intro v3 w3 hr3 hg3 _; have HR := Lib.hid hr3; have HB := Lib.hid (HB2.out.grown hg3 HB2.out.size (fun g hg => (World.ownsRow.lt HR3.out g hg).1)); clear hr3 hg3)))
  all_goals
    go_wp2
    go_ret
    exact ⟨_, rfl, HR.out, HB.out⟩
/-- A key's waiters, in order. -/
def lineO (s : Lk) (k : ByteArray) : List Int := (s.q 1 k ++ s.q 2 k).map fun y => (s.con y).ow
theorem RowI.below {v : Value} {ts : List Int} (h : RowI W B v ts) (hb : Below W.heap.size W X) : RowI X B v ts :=
  World.ownsRow.kept h (row := none) ⟨hb.os, hb.tape, hb.output, hb.size, fun k hk _ => hb.block k hk⟩ (by cases v.ownBlock with
    | none => exact .inl rfl
    | some k => exact .inr (fun e => by cases e))
theorem rowI_mono {v : Value} {ts : List Int} {B' : Nat} (h : RowI W B v ts) (hb : B' ≤ B) : RowI W B' v ts := ⟨h.1, h.2.imp id fun ⟨g, cap, cur, q1, q2, q3⟩ => ⟨g, cap, cur, q1, Nat.le_trans hb q2, q3⟩⟩
theorem RowP.cell {v : Value} {l : List Nat} (h : RowP W B v l) {j : Nat} (hj : j < l.length) : ∃ g c, v = .slice (some ⟨g, 0, none⟩) l.length c ∧ ∀ Y : World, Y.heap[g]? = W.heap[g]? → Y.cell? ⟨g, j, none⟩ = some (.pointer (some ⟨l[j], 0, none⟩)) := by
  rcases h.2 with ⟨_, hn⟩ | ⟨g, cap, cur, hv, _⟩
  · omega
  · refine ⟨g, cap, hv, fun X hX => ?_⟩
    have h' : W.ownsRow B 72 1 (.slice (some ⟨g, 0, none⟩) l.length cap) l.length (ptrs l) := hv ▸ h
    rw [World.cell?_of_block (a := ⟨g, j, none⟩) hX, World.ownsRow.cellAt h' j (by omega)]
    unfold ptrs
    rw [List.getElem?_map, List.getElem?_eq_getElem hj]; rfl
set_option maxRecDepth 100000 in
set_option maxHeartbeats 2000000 in
theorem line_no (h : LkAt B W T ml mh mw n s) {k : ByteArray} (hks : k.size ≤ maxLen) (hk : s.lk k = none) :
    Calls Try.prog 19 #[.pointer (some ⟨T, 0, none⟩), .string k] W fun e W' => e = .returned (.slice none 0 0) ∧ W = W' := by
  have KM := Lib.hid (made_any h)
  have l3 := h.m0.look lockMap k hks
  rw [hk] at l3
  replace l3 : (Instr.lookup 56 (.map (some ml)) (.string k) false).run Try.prog W = .ok (.pointer none) W := l3
  have t0 := h.t0
  clear h hk
  go_enter Try.func19, Try.ntmps19
  go_wp2_with fail
  refine KM.out.mono ?_
  rintro e w1 ⟨rfl, rfl⟩
  clear KM
  go_wp2
  go_ret
  exact ⟨rfl, rfl⟩
structure LnW (W wr : World) (v : Value) (os : List Int) : Prop where
  row : RowI wr W.heap.size v os
  bw : Below W.heap.size W wr
  f0 : os = [] → v = .slice none 0 0
set_option maxRecDepth 100000 in
set_option maxHeartbeats 4000000 in
theorem line_yes (h : LkAt B W T ml mh mw n s) {k : ByteArray} (hks : k.size ≤ maxLen) {K0 : Nat} (hk : s.lk k = some K0) (hl : (s.q 1 k).length + (s.q 2 k).length ≤ 100000) :
    Calls Try.prog 19 #[.pointer (some ⟨T, 0, none⟩), .string k] W fun e W' => ∃ v, e = .returned v ∧ RowI W' W.heap.size v (lineO s k) ∧ (lineO s k = [] → v = .slice none 0 0) ∧ Below W.heap.size W W' := by
  have KM := Lib.hid (made_any h)
  have l3 := h.m0.look lockMap k hks
  rw [hk] at l3
  replace l3 : (Instr.lookup 56 (.map (some ml)) (.string k) false).run Try.prog W = .ok (.pointer (some ⟨K0, 0, none⟩)) W := l3
  have t0 := h.t0
  have KL := Lib.hid (line_row (h.qa k K0 hk 1 (by decide)) (h.qa k K0 hk 2 (by decide)) hl)
  have HWC : Hid (∀ X, Below W.heap.size W X → ∀ y, y ∈ s.q 1 k ++ s.q 2 k → WtAt X y (s.con y)) := fun X hX y hy => by
    rcases List.mem_append.1 hy with c | c
    · exact (h.below hX).wc 1 k y (by decide) c
    · exact (h.below hX).wc 2 k y (by decide) c
  have hll : (s.q 1 k ++ s.q 2 k).length ≤ 100000 := by rw [List.length_append]; exact hl
  have hlo : lineO s k = (s.q 1 k ++ s.q 2 k).map fun y => (s.con y).ow := rfl
  rw [hlo]
  clear h hk hl hlo
  generalize s.q 1 k ++ s.q 2 k = L at *
  go_enter Try.func19, Try.ntmps19
  go_wp2_with fail
  refine KM.out.mono ?_
  rintro e w0 ⟨rfl, rfl⟩
  clear KM
  go_wp2_with fail
  refine KL.out.mono ?_
  rintro e w1 ⟨vr, rfl, hr1, hb1⟩
  have HR1 := Lib.hid hr1
  have HB1 := Lib.hid hb1
  obtain ⟨ar, cr, hvr⟩ : ∃ a c, vr = .slice a L.length c := by
    obtain ⟨a, c, e, _⟩ := hr1.form
    exact ⟨a, c, e⟩
  subst hvr
  have S0 : Hid (LnW w1 w1 (.slice none 0 0) ((L.take 0).map fun y => (s.con y).ow)) := ⟨World.ownsRow_nil _ _ _ _, Below.refl _ _, fun _ => rfl⟩
  have hli : (L.length : Int) ≤ 100000 := by omega
  clear hr1 hb1 KL l3 t0
  go_wp2
  go_loopw [5, 7, 28] (fun v _ i wr => ∃ j : Nat, i = .int .i64 (j : Int) ∧ j ≤ L.length ∧ Hid (LnW w1 wr v ((L.take j).map fun y => (s.con y).ow))) (fun _ _ i _ => L.length - (intOf i).toNat)
  case atStart => exact ⟨0, rfl, Nat.zero_le _, S0⟩
  case round =>
    obtain ⟨j, rfl, hj, st⟩ := hrel
    rename World => wr
    clear S0
    by_cases hlt : j < L.length
    · obtain ⟨g, c, hv, hcell⟩ := HR1.out.cell hlt
      cases hv
      have hgb := (World.ownsRow.lt HR1.out g rfl).2
      have hc := hcell wr (st.out.bw.block g hgb)
      have htk : L.take (j + 1) = L.take j ++ [L[j]] := List.take_succ_eq_append_getElem hlt
      have HT := Lib.hid htk
      have hwt := HWC.out wr (HB1.out.trans (st.out.bw.mono HB1.out.size)) L[j] (List.getElem_mem hlt)
      generalize L[j] = y at *
      have c2 := hwt.c2
      have hba : Below wr.heap.size wr (wr.alloc (.cells #[.int .i64 (s.con y).ow] 3)) := (Below.refl _ _).alloc (Nat.le_refl _) _
      have hs1 : w1.heap.size ≤ wr.heap.size := st.out.bw.size
      have HRI := Lib.hid (st.out.row.below hba)
      have HBB := Lib.hid (st.out.bw.trans (hba.mono hs1))
      have hcl : (wr.alloc (.cells #[.int .i64 (s.con y).ow] 3)).cell? ((⟨wr.heap.size, 0, none⟩ : Addr).add 0) = some (.int .i64 (s.con y).ow) := new_cell rfl rfl
      have hs2 : w1.heap.size ≤ (wr.alloc (.cells #[.int .i64 (s.con y).ow] 3)).heap.size := by rw [World.size_alloc]; omega
      have hlen : ((L.take j).map fun y => (s.con y).ow).length ≤ 1000000 := by rw [List.length_map, List.length_take]; omega
      have HLT := Lib.hid hlt
      clear hwt hba hcell htk
      go_wp2_with (at_builtin; refine append_i2 rfl _ _ rfl w1.heap.size u5 ((L.take j).map fun y => (s.con y).ow) ⟨wr.heap.size, 0, none⟩ (s.con y).ow 1 rfl HRI.out rfl hcl hlen hs2 ?_)
      intro v8 w8 hr8 hg8 ho8
      have ST : Hid (LnW w1 w8 v8 ((L.take (j + 1)).map fun y => (s.con y).ow)) := ⟨by rw [HT.out, List.map_append, List.map_take]; exact hr8, HBB.out.grown hg8 hs2 (fun g hg => (World.ownsRow.lt HRI.out g hg).1), fun e => by rw [HT.out] at e; simp at e⟩
      clear hr8 hg8 ho8 HRI HBB hcl st hs1 hs2 hlen
      go_wp2
      go_roundw
      case rel => exact ⟨j + 1, by go_num, HLT.out, ST⟩
      case measure => simp [intOf]; have := HLT.out; omega
    · obtain rfl : j = L.length := by omega
      have h1 := st.out
      rw [List.take_length] at h1
      have HP : Hid (∃ v, Ending.returned u5 = .returned v ∧ RowI wr W.heap.size v (L.map fun y => (s.con y).ow) ∧ ((L.map fun y => (s.con y).ow) = [] → v = .slice none 0 0) ∧ Below W.heap.size W wr) := ⟨u5, rfl, rowI_mono h1.row HB1.out.size, h1.f0, HB1.out.trans (h1.bw.mono HB1.out.size)⟩
      clear h1 st
      go_wp2
      go_ret
      exact HP.out
theorem line_all (h : LkAt B W T ml mh mw n s) {k : ByteArray} (hks : k.size ≤ 1000) (hl : (s.q 1 k).length + (s.q 2 k).length ≤ 100000) :
    Calls Try.prog 19 #[.pointer (some ⟨T, 0, none⟩), .string k] W fun e W' => ∃ v, e = .returned v ∧ RowI W' W.heap.size v (lineO s k) ∧ (lineO s k = [] → v = .slice none 0 0) ∧ Below W.heap.size W W' := by
  cases e : s.lk k with
  | none =>
    refine (line_no h (show k.size ≤ maxLen by unfold maxLen; omega) e).mono ?_
    rintro e' W' ⟨rfl, rfl⟩
    have : lineO s k = [] := by unfold lineO; rw [h.qn k e 1, h.qn k e 2]; rfl
    rw [this]
    exact ⟨_, rfl, World.ownsRow_nil _ _ _ _, fun _ => rfl, Below.refl _ _⟩
  | some K0 => exact line_yes h (show k.size ≤ maxLen by unfold maxLen; omega) e hl
end
end Go.Proofs.Ytjojempjmpaaaaa

namespace Go.Proofs.Ytjojempjmpaaaaa
open Go.RowKit
def rowEd (con : Nat → Wc) (w : Nat) (oth : List Nat) : List (Int × Int) := (oth.filter fun y => clash (con w) (con y)).map fun y => ((con w).ow, (con y).ow)
def edK (con : Nat → Wc) : List Nat → List Nat → List (Int × Int)
  | _, [] => []
  | oth, w :: t => rowEd con w oth ++ edK con (oth ++ [w]) t
theorem edK_snoc (con : Nat → Wc) (w : Nat) : ∀ (l oth : List Nat), edK con oth (l ++ [w]) = edK con oth l ++ rowEd con w (oth ++ l)
  | [], oth => by simp [edK]
  | a :: t, oth => by
    rw [List.cons_append, edK, edK, edK_snoc con w t (oth ++ [a]), List.append_assoc, List.append_assoc]
    rfl
theorem rowEd_snoc (con : Nat → Wc) (w y : Nat) (l : List Nat) : rowEd con w (l ++ [y]) = rowEd con w l ++ if clash (con w) (con y) = true then [((con w).ow, (con y).ow)] else [] := by
  unfold rowEd
  rw [List.filter_append, List.map_append]
  congr 1
  by_cases h : clash (con w) (con y) = true
  · rw [if_pos h]; simp [h]
  · rw [if_neg h]; simp [h]
theorem rowEd_len (con : Nat → Wc) (w : Nat) (l : List Nat) : (rowEd con w l).length ≤ l.length := by
  unfold rowEd
  rw [List.length_map]
  exact List.length_filter_le _ _
theorem edK_len (con : Nat → Wc) {N : Nat} : ∀ (l oth : List Nat), oth.length + l.length ≤ N → (edK con oth l).length ≤ l.length * N
  | [], _, _ => by simp [edK]
  | w :: t, oth, h => by
    rw [edK, List.length_append, List.length_cons, Nat.add_mul, Nat.one_mul]
    rw [List.length_cons] at h
    have h1 := rowEd_len con w oth
    have h2 := edK_len con (N := N) t (oth ++ [w]) (by rw [List.length_append, List.length_singleton]; omega)
    omega
theorem edK_congr {con con' : Nat → Wc} : ∀ (l oth : List Nat), (∀ y, y ∈ oth ++ l → con' y = con y) → edK con' oth l = edK con oth l
  | [], _, _ => rfl
  | w :: t, oth, h => by
    rw [edK, edK, edK_congr t (oth ++ [w]) (fun y hy => h y (by simpa using hy))]
    congr 1
    unfold rowEd
    rw [h w (by simp)]
    have e : ∀ l : List Nat, (∀ y, y ∈ l → y ∈ oth) → ((l.filter fun y => clash (con w) (con' y)).map fun y => ((con w).ow, (con' y).ow)) = (l.filter fun y => clash (con w) (con y)).map fun y => ((con w).ow, (con y).ow) := fun l => by
      induction l with
      | nil => intro _; rfl
      | cons a r ih =>
        intro hl
        have ea := h a (List.mem_append_left _ (hl a (List.mem_cons_self ..)))
        have ir := ih (fun y hy => hl y (List.mem_cons_of_mem _ hy))
        rw [List.filter_cons, List.filter_cons, ea]
        split
        · rw [List.map_cons, List.map_cons, ir, ea]
        · exact ir
    exact e oth (fun _ hy => hy)
def encE (p : Int × Int) : List Value := [.int .i64 p.1, .int .i64 p.2]
def flatE (l : List (Int × Int)) : List Value := l.flatMap encE
theorem flatE_append (a b : List (Int × Int)) : flatE (a ++ b) = flatE a ++ flatE b := by unfold flatE; rw [List.flatMap_append]
theorem flatE_one (l : List (Int × Int)) : ∀ u ∈ flatE l, u.oneCell' = true := fun u hu => by
  obtain ⟨p, _, hp⟩ := List.mem_flatMap.1 hu
  simp [encE] at hp
  rcases hp with rfl | rfl <;> rfl
def RowE (W : World) (B : Nat) (v : Value) (l : List (Int × Int)) : Prop := W.ownsRow B 54 2 v l.length (flatE l)
theorem infoE : (Try.prog.info? 54).map (fun i => (i.zero, i.size, i.bytes)) = some (some (.agg #[.int .i64 0, .int .i64 0]), 2, 16) := by kernel_rfl
theorem append_e {w : World} {ops : Array Oper} {rest : List Oper} {o : Oper} {a : Act} {Q : Exit → Act → World → Prop} (hgd : o.guard = none) (s x : Operand)
    (ho : o.op = .call { callee := .builtin .append, args := #[s, x], argTypes := #[48, 48] })
    (B : Nat) (v : Value) (l : List (Int × Int)) (ad : Addr) (y : Int × Int) (c : Nat) (hs : a.eval s = v) (hown : RowE w B v l) (hx : a.eval x = .slice (some ad) 1 c) (hc : w.cell? (ad.add 0) = some (.int .i64 y.1)) (hc1 : w.cell? (ad.add 1) = some (.int .i64 y.2)) (h10 : l.length ≤ 1000000000) (hB : B ≤ w.heap.size)
    (h : ∀ v' w', RowE w' B v' (l ++ [y]) → w.grownBy w' v.ownBlock → (v'.ownBlock = v.ownBlock ∨ v'.ownBlock = some w.heap.size) → wpList Try.prog ops Q rest (a.put o.dst v') w') :
    wpList Try.prog ops Q (o :: rest) a w := by
  obtain ⟨i0, hi, hzz⟩ := Option.map_eq_some_iff.1 infoE
  simp only [Prod.mk.injEq] at hzz
  obtain ⟨hz0, hz1, hz2⟩ := hzz
  refine wpList_append_own_at _ hgd s x 48 ho B 54 i0 _ 2 16 Try.underlying48 hi hz0 hz1 hz2 rfl (by decide) v l.length (flatE l) hs hown ad 1 c [.int .i64 y.1, .int .i64 y.2] hx rfl ?_ ?_ (by unfold maxLen; omega) (by omega) hB (fun v' w' h1 hg _ h4 => h v' w' ?_ hg h4)
  · intro j u' hj
    match j, hj with
    | 0, hj => simp at hj; subst hj; exact hc
    | 1, hj => simp at hj; subst hj; exact hc1
  · intro u' hu; simp at hu; rcases hu with rfl | rfl <;> rfl
  · unfold RowE
    rw [List.length_append, flatE_append]; exact h1
theorem append_ee {w : World} {ops : Array Oper} {rest : List Oper} {o : Oper} {a : Act} {Q : Exit → Act → World → Prop} (hgd : o.guard = none) (s x : Operand)
    (ho : o.op = .call { callee := .builtin .append, args := #[s, x], argTypes := #[48, 48] })
    (B B2 : Nat) (v vx : Value) (l m : List (Int × Int)) (hs : a.eval s = v) (hown : RowE w B v l) (hx : a.eval x = vx) (hox : RowE w B2 vx m) (h10 : l.length + m.length ≤ 1000000000000) (hB : B ≤ w.heap.size)
    (h : ∀ v' w', RowE w' B v' (l ++ m) → w.grownBy w' v.ownBlock → (v'.ownBlock = v.ownBlock ∨ v'.ownBlock = some w.heap.size) → wpList Try.prog ops Q rest (a.put o.dst v') w') :
    wpList Try.prog ops Q (o :: rest) a w := by
  obtain ⟨i0, hi, hzz⟩ := Option.map_eq_some_iff.1 infoE
  simp only [Prod.mk.injEq] at hzz
  obtain ⟨hz0, hz1, hz2⟩ := hzz
  refine append_rows hgd s x 48 ho B 54 i0 _ 2 16 Try.underlying48 hi hz0 hz1 hz2 rfl (by decide) v l.length (flatE l) hs hown vx m.length (flatE m) hx (row_src hox (flatE_one m)) (by unfold maxLen; omega) (by omega) hB (fun v' w' h1 h2 _ h4 => h v' w' ?_ h2 h4)
  unfold RowE
  rw [List.length_append, flatE_append]; exact h1
/-- append of an edge, as a step of a region that draws. -/
theorem step_append_e {ops : Array Oper} {o : Oper} {a : Act} {w : World} {K : Act → World → Prop} {Q : Exit → Act → World → Prop} {E : Prop}
    (hg : o.guard = none) (s x : Operand) (hop : o.op = Op.call { callee := Callee.builtin Builtin.append, args := #[s, x], argTypes := #[48, 48] })
    (B : Nat) (v : Value) (l : List (Int × Int)) (ad : Addr) (y : Int × Int) (c : Nat) (hs : a.eval s = v) (hown : RowE w B v l) (hx : a.eval x = .slice (some ad) 1 c) (hc : w.cell? (ad.add 0) = some (.int .i64 y.1)) (hc1 : w.cell? (ad.add 1) = some (.int .i64 y.2)) (h10 : l.length ≤ 1000000000) (hB : B ≤ w.heap.size)
    (hK : ∀ v' w', RowE w' B v' (l ++ [y]) → w.grownBy w' v.ownBlock → (v'.ownBlock = v.ownBlock ∨ v'.ownBlock = some w.heap.size) → K (a.put o.dst v') w') :
    if Region.wanted o (yielded ops a.tmps) = true then Oper.wp Try.prog o a w K Q else E := by
  have hw : Region.wanted o (yielded ops a.tmps) = true := by simp [Region.wanted, hg]
  rw [if_pos hw]
  obtain ⟨i0, hi, hzz⟩ := Option.map_eq_some_iff.1 infoE
  simp only [Prod.mk.injEq] at hzz
  obtain ⟨hz0, hz1, hz2⟩ := hzz
  obtain ⟨v', w', hrun, r1, r2, _, r4⟩ := run_append_own_at (P := Try.prog) w B 48 o.type 54 i0 _ 2 16 Try.underlying48 hi hz0 hz1 hz2 rfl (by decide) v l.length (flatE l) hown ad 1 c [.int .i64 y.1, .int .i64 y.2] rfl (by
    intro j u' hj
    match j, hj with
    | 0, hj => simp at hj; subst hj; exact hc
    | 1, hj => simp at hj; subst hj; exact hc1) (by intro u' hu; simp at hu; rcases hu with rfl | rfl <;> rfl) (by unfold maxLen; omega) (by omega) hB
  unfold Oper.wp
  simp [execOp, hop, resolve, invoke, builtin, hs, hx, hrun, Result.andThen]
  refine hK v' w' ?_ r2 r4
  unfold RowE
  rw [List.length_append, flatE_append]; exact r1
/-- Three rows apart. -/
structure EdW (W wr : World) (vL vO vE : Value) (line oth : List Nat) (es : List (Int × Int)) : Prop where
  l : RowP wr W.heap.size vL line
  o : RowP wr W.heap.size vO oth
  e : RowE wr W.heap.size vE es
  dl : ∀ g, vL.ownBlock = some g → vO.ownBlock ≠ some g ∧ vE.ownBlock ≠ some g
  dm : ∀ g, vO.ownBlock = some g → vE.ownBlock ≠ some g
  bw : Below W.heap.size W wr
section
variable {W wr X : World} {vL vO vE : Value} {line oth : List Nat} {es : List (Int × Int)}
theorem kept_ne {w w' : World} {B : Nat} {e : TypeId} {sz : Nat} {v : Value} {n : Nat} {xs : List Value} {r : Option Nat} (h : w.ownsRow B e sz v n xs) (hg : w.grownBy w' r) (hn : ∀ g, v.ownBlock = some g → r ≠ some g) : w'.ownsRow B e sz v n xs :=
  ownsRow_of h (fun g e => hg.block g (h.lt g e).2 (fun c => hn g e c.symm))
theorem EdW.below (h : EdW W wr vL vO vE line oth es) (hb : Below wr.heap.size wr X) : EdW W X vL vO vE line oth es :=
  ⟨h.l.below hb, h.o.below hb, ownsRow_of h.e (fun g e => hb.block g (World.ownsRow.lt h.e g e).2), h.dl, h.dm, h.bw.trans (hb.mono h.bw.size)⟩
theorem EdW.putE (h : EdW W wr vL vO vE line oth es) {vE' : Value} {es' : List (Int × Int)} (hr : RowE X W.heap.size vE' es') (hg : wr.grownBy X vE.ownBlock) (hv : vE'.ownBlock = vE.ownBlock ∨ vE'.ownBlock = some wr.heap.size) : EdW W X vL vO vE' line oth es' := by
  have nw : ∀ {w : World} {B : Nat} {e : TypeId} {sz : Nat} {v : Value} {n : Nat} {xs : List Value}, wr.ownsRow B e sz v n xs → ∀ g, v.ownBlock = some g → vE.ownBlock ≠ some g → vE'.ownBlock ≠ some g := fun hr g e hn c => by
    rcases hv with q | q
    · rw [q] at c; exact hn c
    · rw [q] at c
      injection c with c
      have := (hr.lt g e).2
      omega
  exact ⟨kept_ne h.l hg (fun g e => (h.dl g e).2), kept_ne h.o hg h.dm, hr, fun g e => ⟨(h.dl g e).1, nw (w := wr) h.l g e (h.dl g e).2⟩, fun g e => nw (w := wr) h.o g e (h.dm g e), h.bw.grown hg h.bw.size (fun g e => (World.ownsRow.lt h.e g e).1)⟩
theorem EdW.putO (h : EdW W wr vL vO vE line oth es) {vO' : Value} {oth' : List Nat} (hr : RowP X W.heap.size vO' oth') (hg : wr.grownBy X vO.ownBlock) (hv : vO'.ownBlock = vO.ownBlock ∨ vO'.ownBlock = some wr.heap.size) : EdW W X vL vO' vE line oth' es := by
  refine ⟨kept_ne h.l hg (fun g e => (h.dl g e).1), hr, kept_ne h.e hg (fun g e c => h.dm g c e), fun g e => ⟨fun c => ?_, (h.dl g e).2⟩, fun g e c => ?_, h.bw.grown hg h.bw.size (fun g e => (World.ownsRow.lt h.o g e).1)⟩
  · rcases hv with q | q
    · rw [q] at c; exact (h.dl g e).1 c
    · rw [q] at c
      injection c with c
      have := (World.ownsRow.lt h.l g e).2
      omega
  · rcases hv with q | q
    · rw [q] at e; exact h.dm g e c
    · rw [q] at e
      injection e with e
      have := (World.ownsRow.lt h.e g c).2
      omega
end
section
variable {W : World} {K : Nat} {q0 q1 q2 : List Nat}
set_option maxRecDepth 100000 in
set_option maxHeartbeats 4000000 in
theorem edges_any (con : Nat → Wc) (h0 : QAt W K 0 q0) (h1 : QAt W K 2 q1) (h2 : QAt W K 4 q2) (hwc : ∀ y, y ∈ q0 ++ (q1 ++ q2) → WtAt W y (con y)) (hl : q0.length + (q1.length + q2.length) ≤ 10000) :
    Calls Try.prog 43 #[.pointer (some ⟨K, 0, none⟩)] W fun e W' => ∃ v, e = .returned v ∧ RowE W' W.heap.size v (edK con q0 (q1 ++ q2)) ∧ Below W.heap.size W W' := by
  have KA := Lib.hid (all_any h0 (by omega))
  have KL := Lib.hid (fun X (hX : Below W.heap.size W X) => line_row (h1.below hX) (h2.below hX) (by omega))
  have HWC : Hid (∀ X, Below W.heap.size W X → ∀ y, y ∈ q0 ++ (q1 ++ q2) → WtAt X y (con y)) := fun X hX y hy => (hwc y hy).below hX
  have hll : q0.length + (q1 ++ q2).length ≤ 10000 := by rw [List.length_append]; exact hl
  clear h0 h1 h2 hwc hl
  generalize q1 ++ q2 = L at *
  go_enter Try.func43, Try.ntmps43
  go_wp2_with fail
  refine KA.out.mono ?_
  rintro e w1 ⟨vO, rfl, hr1, hb1⟩
  have KL1 := Lib.hid (KL.out w1 hb1)
  have HR1 := Lib.hid hr1
  have HB1 := Lib.hid hb1
  clear hr1 hb1 KA KL
  go_wp2_with fail
  refine KL1.out.mono ?_
  rintro e w2 ⟨vL, rfl, hr2, hb2⟩
  obtain ⟨aL, cL, hvL⟩ : ∃ a c, vL = .slice a L.length c := by
    obtain ⟨a, c, e, _⟩ := hr2.form
    exact ⟨a, c, e⟩
  have S0 : Hid (EdW W w2 vL vO (.slice none 0 0) L (q0 ++ L.take 0) (edK con q0 (L.take 0))) := by
    rw [List.take_zero, List.append_nil]
    refine ⟨?_, HR1.out.below hb2, World.ownsRow_nil _ _ _ _, fun g e => ⟨fun c => ?_, fun c => by cases c⟩, fun g _ c => by (cases c), HB1.out.trans (hb2.mono HB1.out.size)⟩
    · exact ⟨hr2.1, hr2.2.imp id fun ⟨g, cap, cur, q1, q2, q3⟩ => ⟨g, cap, cur, q1, Nat.le_trans HB1.out.size q2, q3⟩⟩
    · have h1 := (World.ownsRow.lt hr2 g e).1
      have h2 := (World.ownsRow.lt HR1.out g c).2
      omega
  subst hvL
  have hli : (L.length : Int) ≤ 10000 := by omega
  clear hr2 hb2 KL1 HR1
  go_wp2
  go_loopw [3, 4, 6, 8, 16] (fun vE vO _ _ i wr => ∃ j : Nat, i = .int .i64 (j : Int) ∧ j ≤ L.length ∧ Hid (EdW W wr (.slice aL L.length cL) vO vE L (q0 ++ L.take j) (edK con q0 (L.take j)))) (fun _ _ _ _ i _ => L.length - (intOf i).toNat)
  case atStart => exact ⟨0, rfl, Nat.zero_le _, S0⟩
  case round =>
    obtain ⟨j, rfl, hj, st⟩ := hrel
    rename World => wr
    clear S0
    by_cases hlt : j < L.length
    · obtain ⟨g, c, hv, hcell⟩ := st.out.l.cell hlt
      cases hv
      have hc := hcell wr rfl
      have htk : L.take (j + 1) = L.take j ++ [L[j]] := List.take_succ_eq_append_getElem hlt
      have HT := Lib.hid htk
      have hym : L[j] ∈ q0 ++ L := List.mem_append_right _ (List.getElem_mem hlt)
      have HLT := Lib.hid hlt
      have hsub : ∀ z, z ∈ q0 ++ L.take j → z ∈ q0 ++ L := fun z hz => (List.mem_append.1 hz).elim (List.mem_append_left _) (fun c => List.mem_append_right _ (List.mem_of_mem_take c))
      have HSUB := Lib.hid hsub
      have hes : (edK con q0 (L.take j)).length ≤ 100000000 := by
        have h1 := edK_len con (N := 10000) (L.take j) q0 (by rw [List.length_take]; omega)
        rw [List.length_take] at h1
        have h2 : min j L.length ≤ 10000 := by omega
        have h3 := Nat.mul_le_mul_right 10000 h2
        omega
      have hol : (q0 ++ L.take j).length ≤ 10000 := by rw [List.length_append, List.length_take]; omega
      have hes2 : edK con q0 (L.take (j + 1)) = edK con q0 (L.take j) ++ rowEd con L[j] (q0 ++ L.take j) := by rw [htk]; exact edK_snoc con L[j] (L.take j) q0
      have HES := Lib.hid hes2
      have hoth : q0 ++ L.take (j + 1) = (q0 ++ L.take j) ++ [L[j]] := by rw [htk]; exact (List.append_assoc _ _ _).symm
      have HOTH := Lib.hid hoth
      clear htk hsub hes2 hoth hcell
      generalize L[j] = y at *
      generalize hOT : q0 ++ L.take j = oth at *
      generalize hE0 : edK con q0 (L.take j) = es0 at *
      obtain ⟨aO, cO, hvO⟩ : ∃ a c, u4 = .slice a oth.length c := by
        obtain ⟨a, c, e, _⟩ := st.out.o.form
        exact ⟨a, c, e⟩
      subst hvO
      have S1 : Hid (EdW W wr (.slice (some ⟨g, 0, none⟩) L.length cL) (.slice aO oth.length cO) u3 L oth (es0 ++ rowEd con y (oth.take 0))) := by
        have e : es0 ++ rowEd con y (oth.take 0) = es0 := by rw [List.take_zero]; show es0 ++ [] = es0; rw [List.append_nil]
        rw [e]; exact st.out
      have hoi : (oth.length : Int) ≤ 10000 := by omega
      clear st
      go_wp2
      go_loopw [3, 8, 22] (fun vE _ i wx => ∃ t : Nat, i = .int .i64 (t : Int) ∧ t ≤ oth.length ∧ Hid (EdW W wx (.slice (some ⟨g, 0, none⟩) L.length cL) (.slice aO oth.length cO) vE L oth (es0 ++ rowEd con y (oth.take t)))) (fun _ _ i _ => oth.length - (intOf i).toNat)
      case atStart => exact ⟨0, rfl, Nat.zero_le _, S1⟩
      case round =>
        obtain ⟨t, rfl, ht, si⟩ := hrel
        rename World => wx
        clear S1
        by_cases hlt2 : t < oth.length
        · obtain ⟨g2, c2, hv2, hcell2⟩ := si.out.o.cell hlt2
          cases hv2
          have hc2 := hcell2 wx rfl
          have htk2 : oth.take (t + 1) = oth.take t ++ [oth[t]] := List.take_succ_eq_append_getElem hlt2
          have hzm : oth[t] ∈ q0 ++ L := HSUB.out _ (List.getElem_mem hlt2)
          have HLT2 := Lib.hid hlt2
          generalize oth[t] = z at *
          have hwy := HWC.out wx si.out.bw y hym
          have hwz := HWC.out wx si.out.bw z hzm
          have KC := Lib.hid (clashes_any hwy hwz)
          have hrs := rowEd_snoc con y z (oth.take t)
          rw [← htk2] at hrs
          have HRS := Lib.hid hrs
          have HZM := Lib.hid hzm
          have hlr : (es0 ++ rowEd con y (oth.take t)).length ≤ 1000000000 := by
            have h1 := rowEd_len con y (oth.take t)
            rw [List.length_take] at h1
            rw [List.length_append]
            omega
          clear htk2 hcell2 hwy hwz hrs hzm
          go_wp2_with fail
          refine KC.out.mono ?_
          rintro e w5 ⟨rfl, hb5⟩
          have S5 := Lib.hid (si.out.below hb5)
          clear KC hb5 si hc hc2
          cases hcl : clash (con y) (con z) with
          | false =>
            have S6 : Hid (EdW W w5 (.slice (some ⟨g, 0, none⟩) L.length cL) (.slice (some ⟨g2, 0, none⟩) oth.length cO) u3 L oth (es0 ++ rowEd con y (oth.take (t + 1)))) := by
              have e := HRS.out
              rw [hcl] at e
              rw [e, if_neg (by decide), List.append_nil]
              exact S5.out
            clear S5
            go_wp2
            go_roundw
            case rel => exact ⟨t + 1, by go_num, HLT2.out, S6⟩
            case measure => simp [intOf]; have := HLT2.out; omega
          | true =>
            have S6 := Lib.hid (S5.out.below (Below.refl _ _).drew)
            have hwy := HWC.out w5.drew S6.out.bw y hym
            have hwz := HWC.out w5.drew S6.out.bw z HZM.out
            have y2 := hwy.c2
            have z2 := hwz.c2
            have HRS2 : Hid (es0 ++ rowEd con y (oth.take (t + 1)) = (es0 ++ rowEd con y (oth.take t)) ++ [((con y).ow, (con z).ow)]) := by
              have e := HRS.out
              rw [hcl] at e
              rw [e, if_pos rfl, List.append_assoc]
              rfl
            clear S5 hwy hwz HRS
            go_upto_region 10 with fail
            have hba : Below w5.drew.heap.size w5.drew (w5.drew.alloc (.cells #[.int .i64 (con y).ow, .int .i64 (con z).ow] 54)) := (Below.refl _ _).alloc (Nat.le_refl _) _
            have S7 := Lib.hid (S6.out.below hba)
            have hk0 : (w5.drew.alloc (.cells #[.int .i64 (con y).ow, .int .i64 (con z).ow] 54)).cell? ((⟨w5.drew.heap.size, 0, none⟩ : Addr).add 0) = some (.int .i64 (con y).ow) := new_cell rfl rfl
            have hk1 : (w5.drew.alloc (.cells #[.int .i64 (con y).ow, .int .i64 (con z).ow] 54)).cell? ((⟨w5.drew.heap.size, 0, none⟩ : Addr).add 1) = some (.int .i64 (con z).ow) := new_cell rfl rfl
            have hsB := S7.out.bw.size
            clear hba S6
            go_region_law ((refine step_append_e (by rfl) _ _ (by rfl) W.heap.size u3 (es0 ++ rowEd con y (oth.take t)) ⟨w5.drew.heap.size, 0, none⟩ ((con y).ow, (con z).ow) 1 (by rfl) S7.out.e (by rfl) hk0 hk1 hlr hsB ?_; intro v8 w8 hr8 hg8 ho8; have hr9 : RowE w8 W.heap.size v8 (es0 ++ rowEd con y (oth.take (t + 1))) := by { rw [HRS2.out]; exact hr8 }; have S8 := Lib.hid (S7.out.putE hr9 hg8 ho8); clear hr8 hr9 hg8 ho8))
            all_goals clear S7 hk0 hk1 hsB
            all_goals go_wp2
            all_goals
              go_roundw
              case rel => exact ⟨t + 1, by go_num, HLT2.out, S8⟩
              case measure => simp [intOf]; have := HLT2.out; omega
        · obtain rfl : t = oth.length := by omega
          have s1 := si.out
          rw [List.take_length, ← HES.out] at s1
          have hba : Below wx.heap.size wx (wx.alloc (.cells #[.pointer (some ⟨y, 0, none⟩)] 72)) := (Below.refl _ _).alloc (Nat.le_refl _) _
          have S7 := Lib.hid (s1.below hba)
          have hk0 : (wx.alloc (.cells #[.pointer (some ⟨y, 0, none⟩)] 72)).cell? ((⟨wx.heap.size, 0, none⟩ : Addr).add 0) = some (.pointer (some ⟨y, 0, none⟩)) := new_cell rfl rfl
          have hsB := S7.out.bw.size
          clear hba s1 si
          go_wp2_with (at_builtin; refine append_p2 rfl _ _ rfl W.heap.size (.slice aO oth.length cO) oth ⟨wx.heap.size, 0, none⟩ y 1 rfl S7.out.o rfl hk0 (by omega) hsB ?_)
          intro v8 w8 hr8 hg8 ho8
          rw [← HOTH.out] at hr8
          have S8 := Lib.hid (S7.out.putO hr8 hg8 (by rw [World.size_alloc]; exact ho8))
          clear hr8 hg8 ho8 S7 hk0 hsB
          go_wp2
          go_roundw
          case rel => exact ⟨j + 1, by go_num, HLT.out, S8⟩
          case measure => simp [intOf]; have := HLT.out; omega
    · obtain rfl : j = L.length := by omega
      have h1 := st.out
      rw [List.take_length] at h1
      have HP : Hid (RowE wr W.heap.size u3 (edK con q0 L)) := h1.e
      have HB := Lib.hid h1.bw
      clear h1 st
      go_wp2
      go_ret
      exact ⟨_, rfl, HP.out, HB.out⟩
end
end Go.Proofs.Ytjojempjmpaaaaa

namespace Go.Proofs.Ytjojempjmpaaaaa
open Go.RowKit Go.Maps Go.ChangeMaps Go.MapKept Go.WideElems Go.WideMaps
/-- Who waits for whom at a key. -/
def edOf (s : Lk) (k : ByteArray) : List (Int × Int) := edK s.con (s.q 0 k) (s.q 1 k ++ s.q 2 k)
/-- For what an owner waits. -/
noncomputable def kw (s : Lk) (o : Int) : ByteArray := match s.wt o with
  | some w => (s.con w).k
  | none => ByteArray.empty
def waited (s : Lk) (k : ByteArray) : Prop := ∃ o w, s.wt o = some w ∧ (s.con w).k = k
section
variable {B : Nat} {W X : World} {T ml mh mw n : Nat} {s : Lk}
structure EgA (W wr : World) (n mw R : Nat) (s : Lk) (D0 : DataW Unit) (dn : List Int) (v : Value) (lf : Lit → Bool) (cnt : Nat) : Prop where
  rg : wr.ranges Try.prog 3 (rdB pV (H := Unit)) mw R n D0 lf cnt
  lf : ∀ i : Int, lf (.int .i64 i) = true ↔ (s.wt i ≠ none ∧ i ∉ dn)
  mem : ∀ i, i ∈ dn → s.wt i ≠ none
  row : RowS wr W.heap.size v (dn.map (kw s))
  f0 : dn = [] → v = .slice none 0 0
  cn : dn.length + cnt ≤ n
  bw : Below W.heap.size W wr
  hR : W.heap.size ≤ R
theorem EgA.next {wr w2 w5 : World} {R : Nat} {D0 : DataW Unit} {dn : List Int} {v v' : Value} {lf : Lit → Bool} {cnt cnt1 : Nat} {k : ByteArray} (h : EgA W wr n mw R s D0 dn v lf cnt) (hmw : mw < W.heap.size) (hmc : ∀ X, Below W.heap.size W X → ∀ i, X.cell? ⟨mw, i, none⟩ = none) {x : Int} (hlf : lf (.int .i64 x) = true)
    (hit : w2.ranges Try.prog 3 (rdB pV (H := Unit)) mw R n D0 (fun z => lf z && !z.sameKey (.int .i64 x)) cnt1) (hlt : cnt1 < cnt) (hb2 : Below W.heap.size W w2) (hrow2 : RowS w2 W.heap.size v (dn.map (kw s)))
    (hrow : RowS w5 W.heap.size v' (dn.map (kw s) ++ [kw s x])) (hg : (w2.alloc (.cells #[.string k] 9)).grownBy w5 v.ownBlock) :
    EgA W w5 n mw R s D0 (dn ++ [x]) v' (fun z => lf z && !z.sameKey (.int .i64 x)) cnt1 := by
  have hx := (h.lf x).1 hlf
  have ba : Below w2.heap.size w2 (w2.alloc (.cells #[.string k] 9)) := (Below.refl _ _).alloc (Nat.le_refl _) _
  have own := own0 hrow2 (by decide) (fun e => h.f0 (by simpa using e))
  have hW2 : W.heap.size ≤ w2.heap.size := hb2.size
  have it4 := hit.alloc (.cells #[.string k] 9)
  refine ⟨ranges_blocks it4 (hg.block mw (by have := ba.size; omega) (fun c => ?_)) (hg.block R (Nat.lt_of_lt_of_le hit.lt ba.size) (fun c => ?_)), fun i => ?_, fun i hi => ?_, by rw [List.map_append]; exact hrow, fun e => by simp at e, by rw [List.length_append, List.length_singleton]; have := h.cn; omega, (hb2.trans (ba.mono hW2)).grown hg (Nat.le_trans hW2 ba.size) (fun g e => (own g e).2.1), h.hR⟩
  · obtain ⟨⟨u, hu⟩, _⟩ := own mw c.symm
    rw [hmc w2 hb2] at hu; cases hu
  · obtain ⟨⟨u, hu⟩, _⟩ := own R c.symm
    rw [iter_cell hit] at hu; cases hu
  · rw [Bool.and_eq_true, h.lf i, List.mem_append, List.mem_singleton]
    constructor
    · rintro ⟨⟨c1, c2⟩, c3⟩
      exact ⟨c1, fun c => c.elim c2 (fun e => by subst e; simp [Lit.sameKey] at c3)⟩
    · rintro ⟨c1, c2⟩
      refine ⟨⟨c1, fun c => c2 (.inl c)⟩, ?_⟩
      have : i ≠ x := fun e => c2 (.inr e)
      simp [Lit.sameKey]
      exact this
  · rcases List.mem_append.1 hi with c | c
    · exact h.mem i c
    · rw [List.mem_singleton.1 c]; exact hx.1
structure EfW (W wr : World) (v : Value) (es : List (Int × Int)) : Prop where
  row : RowE wr W.heap.size v es
  bw : Below W.heap.size W wr
/-- What Edges tells. -/
def EdP (s : Lk) (W : World) (e : Ending) (W' : World) : Prop :=
  ∃ (v : Value) (kl : List ByteArray), e = .returned v ∧ RowE W' W.heap.size v ((keysL kl).flatMap (edOf s)) ∧ (∀ k, k ∈ kl ↔ waited s k) ∧ Below W.heap.size W W'
set_option maxRecDepth 100000 in
set_option maxHeartbeats 4000000 in
theorem edges_all (h : LkAt B W T ml mh mw n s) (hc : LkC s) (hn : n ≤ 4000) (hql : ∀ k, (s.q 0 k).length + ((s.q 1 k).length + (s.q 2 k).length) ≤ 10000) :
    Calls Try.prog 18 #[.pointer (some ⟨T, 0, none⟩)] W (EdP s W) := by
  have t2 := h.t2
  obtain ⟨D0, hown, hat0, hhas⟩ := h.m2
  have hcn : size D0 ≤ n := hown.size_le
  have KM := Lib.hid (made_any h)
  have HAT := Lib.hid hat0
  have H0 := Lib.hid h
  have HC := Lib.hid hc
  have HQL := Lib.hid hql
  have HMW := Lib.hid h.m2.lt
  have HMC : Hid (∀ X, Below W.heap.size W X → ∀ i, X.cell? ⟨mw, i, none⟩ = none) := fun X hX i => (h.below hX).m2.no_cell i
  have S00 : ∀ w0, w0.ranges Try.prog 3 (rdB pV (H := Unit)) mw W.heap.size n D0 (has D0) (size D0) → W.grownBy w0 none → EgA W w0 n mw W.heap.size s D0 [] (.slice none 0 0) (has D0) (size D0) := fun w0 hrg0 hg0 => by
    have hbg : Below W.heap.size W w0 := ⟨hg0.os, hg0.tape, hg0.output, hg0.size, fun j hj => hg0.block j hj (by simp)⟩
    exact ⟨hrg0, fun t => by rw [show has D0 (.int .i64 t) = (s.wt t).isSome from hhas t]; simp [Option.isSome_iff_ne_none], fun _ e => by (cases e), RowS.none _ _, fun _ => rfl, by simpa using hcn, hbg, Nat.le_refl _⟩
  have S01 := Lib.hid S00
  clear h hat0 hhas hcn S00 hc hql
  go_enter Try.func18, Try.ntmps18
  go_wp2_with fail
  refine KM.out.mono ?_
  rintro e w1 ⟨rfl, rfl⟩
  clear KM
  go_wp2_with (first
    | (at_range; refine wpList_range_own _ rfl _ 58 rfl 3 72 (int_keyed Try.underlying3) Try.underlying58 (rdB pV (H := Unit)) mw n D0 rfl hown ?_; intro w0 hrg0 hg0 hs0)
    | fail)
  go_frame
  have S0 := Lib.hid (S01.out w0 hrg0 hg0)
  clear hg0 hs0 hrg0 hown S01 t2
  go_loopw [3, 5] (fun v _ wr => ∃ (dn : List Int) (lf : Lit → Bool) (cnt : Nat), Hid (EgA W wr n mw W.heap.size s D0 dn v lf cnt)) (fun _ _ wr => wr.rangeLeft mw W.heap.size)
  case atStart => exact ⟨[], _, _, S0⟩
  case round =>
    obtain ⟨dn, lf, cnt, st⟩ := hrel
    rename World => wr
    clear S0
    have hrg := Lib.hid st.out.rg
    have hle := st.out.rg.left_eq
    go_wp2_with (first
      | (at_next; refine wpList_next_ranges _ rfl _ rfl 3 (int_keyed Try.underlying3) (rdB pV (H := Unit)) (Value.int .i64) pV (fun key kl hkey => by obtain ⟨x, rfl, _⟩ := Maps.keyOf_int_inv Try.underlying3 hkey; exact ⟨x, rfl⟩) (fun v y hv => by obtain ⟨c, rfl, _⟩ := rdB_inv hv; exact ⟨c, rfl⟩) mw W.heap.size n D0 lf cnt rfl hrg.out ?_ ?_)
      | fail)
    · intro hc0 hl0
      have hall : ∀ k, k ∈ dn.map (kw s) ↔ waited s k := fun k => by
        rw [List.mem_map]
        constructor
        · rintro ⟨o, ho, e⟩
          obtain ⟨w, hw⟩ := Option.ne_none_iff_exists'.1 (st.out.mem o ho)
          refine ⟨o, w, hw, ?_⟩
          rw [← e]; unfold kw; rw [hw]
        · rintro ⟨o, w, hw, e⟩
          refine ⟨o, Classical.byContradiction fun c => ?_, ?_⟩
          · have := (st.out.lf o).2 ⟨by rw [hw]; simp, c⟩
            rw [hl0] at this; cases this
          · unfold kw; rw [hw]; exact e
      have HALL := Lib.hid hall
      have hlen : (dn.map (kw s)).length ≤ 4000 := by have := st.out.cn; rw [List.length_map]; omega
      have h00 : (dn.map (kw s)).length = 0 → u3 = .slice none 0 0 := fun e => st.out.f0 (by simpa using e)
      have KS := Lib.hid (sort_row st.out.row (by omega))
      have KC := Lib.hid (fun W1 (h1 : RowS W1 W.heap.size u3 (ofB ((lb (dn.map (kw s))).mergeSort fun x y => decide (x ≤ y)))) => compact_row h1 (by rw [ofB_len, List.length_mergeSort, lb_len]; omega))
      rw [lb_ofB, compact_sort, ← keysL] at KC
      have HB0 := Lib.hid st.out.bw
      have hsl : (ofB ((lb (dn.map (kw s))).mergeSort fun x y => decide (x ≤ y))).length = (dn.map (kw s)).length := by rw [ofB_len, List.length_mergeSort, lb_len]
      have hkl := keysL_len (dn.map (kw s))
      have HKM : Hid (∀ k, k ∈ keysL (dn.map (kw s)) → waited s k) := fun k hk => (hall k).1 (keysL_mem.1 hk)
      generalize hKL : dn.map (kw s) = kl at *
      have HO0 := Lib.hid (own0 st.out.row (by decide) (fun e => st.out.f0 (by simpa using e)))
      have HLTS := Lib.hid (fun g e => (World.ownsRow.lt st.out.row g e))
      clear hl0 hall hrg hle st
      go_wp2_with fail
      refine KS.out.mono ?_
      rintro e w1 ⟨rfl, hr1, hg1⟩
      have KC1 := Lib.hid (KC.out w1 hr1)
      have HB1 := Lib.hid (HB0.out.grown hg1 HB0.out.size (fun g e => (HLTS.out g e).1))
      have HL1 := Lib.hid (fun g e => World.ownsRow.lt hr1 g e)
      clear KS KC hr1 hg1 HB0
      go_wp2_with fail
      refine KC1.out.mono ?_
      rintro e w2 ⟨a2, c2, rfl, hc2, hg2, ha2⟩
      have HB2 := Lib.hid (HB1.out.grown hg2 HB1.out.size (fun g e => (HL1.out g e).1))
      have HC2 := Lib.hid hc2
      have HA2 : Hid (∀ p, a2 = some p → p.block < w2.heap.size) := fun p e => Nat.lt_of_lt_of_le (HL1.out _ (ha2 p e)).2 hg2.size
      generalize hks : keysL kl = ks at *
      have S0 : Hid (EfW w2 w2 (.slice none 0 0) ((ks.take 0).flatMap (edOf s))) := ⟨World.ownsRow_nil _ _ _ _, Below.refl _ _⟩
      have hki : (ks.length : Int) ≤ 4000 := by omega
      clear hc2 hg2 ha2 KC1 HB1
      go_wp2
      go_loopw [6, 8, 34] (fun v _ i wr => ∃ j : Nat, i = .int .i64 (j : Int) ∧ j ≤ ks.length ∧ Hid (EfW w2 wr v ((ks.take j).flatMap (edOf s)))) (fun _ _ i _ => ks.length - (intOf i).toNat)
      case atStart => exact ⟨0, rfl, Nat.zero_le _, S0⟩
      case round =>
        obtain ⟨j, rfl, hj, st⟩ := hrel
        rename World => wx
        clear S0
        by_cases hlt : j < ks.length
        · have hkk : KeysAt wx a2 ks := keysAt_of HC2.out (fun p e => st.out.bw.block _ (HA2.out p e))
          obtain ⟨b2, off2, ha, hcells⟩ := hkk.resolve_left (fun e => by rw [e] at hlt; cases hlt)
          subst ha
          have hcj := hcells j hlt
          have hgd : ks.getD j ByteArray.empty = ks[j] := by rw [List.getD_eq_getElem?_getD, List.getElem?_eq_getElem hlt]; rfl
          rw [hgd] at hcj
          have htk : ks.take (j + 1) = ks.take j ++ [ks[j]] := List.take_succ_eq_append_getElem hlt
          have HT := Lib.hid htk
          have HLT := Lib.hid hlt
          obtain ⟨o, w, hw, hwk⟩ := HKM.out ks[j] (List.getElem_mem hlt)
          obtain ⟨_, i, hi, hq⟩ := HC.out.ok.w1 o w hw
          rw [hwk] at hq
          have hbx : Below W.heap.size W wx := HB2.out.trans (st.out.bw.mono HB2.out.size)
          have hX := H0.out.below hbx
          obtain ⟨K, hK⟩ := hX.lk_some hq
          have hks2 := (HC.out.ok.ck i _ w (lt3 hi) hq).2.1
          have hele : ((ks.take j).flatMap (edOf s)).length ≤ j * 100000000 := by
            have : ∀ l : List ByteArray, (l.flatMap (edOf s)).length ≤ l.length * 100000000 := fun l => by
              induction l with
              | nil => simp
              | cons k t ih =>
                rw [List.flatMap_cons, List.length_append, List.length_cons, Nat.add_mul, Nat.one_mul]
                have h1 := edK_len s.con (N := 10000) (s.q 1 k ++ s.q 2 k) (s.q 0 k) (by rw [List.length_append]; exact HQL.out k)
                have h2 := HQL.out k
                have h3 : (s.q 1 k ++ s.q 2 k).length ≤ 10000 := by rw [List.length_append]; omega
                have h4 := Nat.mul_le_mul_right 10000 h3
                have h5 : (edOf s k).length ≤ 100000000 := Nat.le_trans h1 h4
                omega
            have h1 := this (ks.take j)
            rw [List.length_take] at h1
            exact Nat.le_trans h1 (Nat.mul_le_mul_right _ (Nat.min_le_left _ _))
          have hel2 : (edOf s ks[j]).length ≤ 100000000 := by
            have h1 := edK_len s.con (N := 10000) (s.q 1 ks[j] ++ s.q 2 ks[j]) (s.q 0 ks[j]) (by rw [List.length_append]; exact HQL.out _)
            have h2 := HQL.out ks[j]
            have h3 : (s.q 1 ks[j] ++ s.q 2 ks[j]).length ≤ 10000 := by rw [List.length_append]; omega
            exact Nat.le_trans h1 (Nat.mul_le_mul_right 10000 h3)
          have hfm : (ks.take (j + 1)).flatMap (edOf s) = (ks.take j).flatMap (edOf s) ++ edOf s ks[j] := by rw [htk, List.flatMap_append, List.flatMap_singleton]; rfl
          have HFM := Lib.hid hfm
          have hjb : j * 100000000 ≤ 4000 * 100000000 := Nat.mul_le_mul_right _ (by omega)
          have KE := edges_any s.con (hX.qa _ K hK 0 (by decide)) (hX.qa _ K hK 1 (by decide)) (hX.qa _ K hK 2 (by decide)) (fun y hy => by
            rcases List.mem_append.1 hy with c | c
            · exact hX.wc 0 _ y (by decide) c
            · rcases List.mem_append.1 c with c | c
              · exact hX.wc 1 _ y (by decide) c
              · exact hX.wc 2 _ y (by decide) c) (HQL.out ks[j])
          have KE := Lib.hid KE
          change Hid (Calls _ _ _ _ fun e W' => ∃ v, e = .returned v ∧ RowE W' wx.heap.size v (edOf s ks[j]) ∧ Below wx.heap.size wx W') at KE
          have t0 := hX.t0
          have l3 := hX.m0.look lockMap ks[j] (show ks[j].size ≤ maxLen by unfold maxLen; omega)
          rw [hK] at l3
          replace l3 : (Instr.lookup 56 (.map (some ml)) (.string ks[j]) false).run Try.prog wx = .ok (.pointer (some ⟨K, 0, none⟩)) wx := l3
          clear hgd htk hw hwk hq hbx hX hK hks2 hfm hcells hkk
          generalize ks[j] = k at *
          go_wp2_with fail
          refine KE.out.mono ?_
          rintro e w5 ⟨v5, rfl, hr5, hb5⟩
          have hs2 : w2.heap.size ≤ wx.heap.size := st.out.bw.size
          have HR5 := Lib.hid hr5
          have HB5 := Lib.hid (st.out.bw.trans (hb5.mono hs2))
          have HR6 : Hid (RowE w5 w2.heap.size u6 ((ks.take j).flatMap (edOf s))) := ownsRow_of st.out.row (fun g e => hb5.block g (World.ownsRow.lt st.out.row g e).2)
          have hle6 : ((ks.take j).flatMap (edOf s)).length + (edOf s k).length ≤ 1000000000000 := by omega
          have hs5 := HB5.out.size
          clear hr5 hb5 KE st l3 t0 hcj
          go_wp2_with (at_builtin; refine append_ee rfl _ _ rfl w2.heap.size wx.heap.size u6 v5 ((ks.take j).flatMap (edOf s)) (edOf s k) rfl HR6.out rfl HR5.out hle6 hs5 ?_)
          intro v8 w8 hr8 hg8 ho8
          rw [← HFM.out] at hr8
          have S8 : Hid (EfW w2 w8 v8 ((ks.take (j + 1)).flatMap (edOf s))) := ⟨hr8, HB5.out.grown hg8 hs5 (fun g e => (World.ownsRow.lt HR6.out g e).1)⟩
          clear hr8 hg8 ho8 HR6 HR5 HB5
          go_wp2
          go_roundw
          case rel => exact ⟨j + 1, by go_num, HLT.out, S8⟩
          case measure => simp [intOf]; have := HLT.out; omega
        · obtain rfl : j = ks.length := by omega
          have h1 := st.out
          rw [List.take_length] at h1
          have HP : Hid (EdP s W (.returned u6) wx) := ⟨u6, kl, rfl, by
            rw [hks]
            exact ⟨h1.row.1, h1.row.2.imp id fun ⟨g, cap, cur, q1, q2, q3⟩ => ⟨g, cap, cur, q1, Nat.le_trans HB2.out.size q2, q3⟩⟩, HALL.out, HB2.out.trans (h1.bw.mono HB2.out.size)⟩
          clear h1 st
          go_wp2
          go_ret
          exact HP.out
    · intro x c kl y1 y2 w2 cnt1 hkey hlk hv hat hrg1 hlt hg1 hs1 hen
      obtain ⟨x', ex, rfl, _⟩ := Maps.keyOf_int_inv Try.underlying3 hkey
      injection ex with _ ex
      subst ex
      obtain ⟨c', ec, ey⟩ := rdB_inv hv
      obtain rfl := pV_inj ec
      obtain rfl : y1 = .lit (.int .i64 (encF c)) := (Prod.mk.inj ey).1
      have hx := (st.out.lf x).1 hlk
      obtain ⟨w, hw⟩ := Option.ne_none_iff_exists'.1 hx.1
      have hcx : c = some w := by
        have h1 := hat (.lit (.int .i64 0))
        have h3 : D0.atKey (.int .i64 x) (.lit (.int .i64 0)) = .lit (.int .i64 (encF (s.wt x))) := HAT.out x
        rw [h3, hw] at h1
        have h4 : encF (some w) = encF c := by injection h1 with h1; injection h1
        exact (encF_inj h4).symm
      subst hcx
      obtain ⟨how, i, hi, hq⟩ := HC.out.ok.w1 x w hw
      have hb2 : Below W.heap.size W w2 := st.out.bw.grown hg1 st.out.bw.size (fun g e => by injection e with e; omega)
      have u0 := ((H0.out.below hb2).wc i _ w (lt3 hi) hq).c0
      have hkx : kw s x = (s.con w).k := by unfold kw; rw [hw]
      have hrow2 : RowS w2 W.heap.size u3 (dn.map (kw s)) := ownsRow_of st.out.row (fun g e2 => by
        obtain ⟨⟨u, hu⟩, _⟩ := own0 st.out.row (by decide) (fun e => st.out.f0 (by simpa using e)) g e2
        refine hg1.block g (block_lt (p := ⟨g, 0, none⟩) hu) (fun c => ?_)
        injection c with c
        rw [c, iter_cell st.out.rg] at hu; cases hu)
      have hlen : (dn.map (kw s)).length ≤ 1000000 := by have := st.out.cn; rw [List.length_map]; omega
      have HB2 := Lib.hid hb2
      have HR2 := Lib.hid hrow2
      have HIT := Lib.hid hrg1
      have HLK := Lib.hid hlk
      have HLT : Hid (cnt1 < cnt) := hlt
      have HKX := Lib.hid hkx
      have hsw2 : W.heap.size ≤ w2.heap.size := hb2.size
      replace hen : (Instr.entry (.pointer (some ⟨W.heap.size, 0, none⟩))).run Try.prog w2 = .ok (.tuple #[.int .i64 x, .pointer (some ⟨w, 0, none⟩)]) w2 := hen
      clear hx how hi hq hb2 hrow2 hkx hrg1 hrg hg1 hs1 hlk hat hlt hw hkey hv ec ey
      generalize (s.con w).k = k at *
      go_wp2_with (at_builtin; refine append_str rfl _ _ rfl W.heap.size u3 (dn.map (kw s)) k rfl HR2.out rfl hlen hsw2 ?_)
      intro v5 w5 hr5 hg5 ho5
      rw [← HKX.out] at hr5
      have ST := Lib.hid (st.out.next HMW.out HMC.out HLK.out HIT.out HLT.out HB2.out HR2.out hr5 hg5)
      clear hr5 hg5 ho5 HR2 HB2 HIT u0
      go_wp2
      go_roundw
      case rel => exact ⟨dn ++ [x], _, cnt1, ST⟩
      case measure =>
        have i1 := ST.out.rg.left_eq
        have i3 := HLT.out
        omega
end
end Go.Proofs.Ytjojempjmpaaaaa
