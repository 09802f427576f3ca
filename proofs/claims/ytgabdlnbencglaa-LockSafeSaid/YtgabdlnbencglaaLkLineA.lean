/-
  A TABLE OF LOCKS: a key's line; Line.
-/
import Derived.Test.YtgabdlnbencglaaLkRows
import Derived.Test.YtgabdlnbencglaaLkAll
import Derived.Test.YtgabdlnbencglaaLkGoAny
import Derived.Deep.RegionLaw
namespace Go.Proofs.Ytgabdlnbencglaa
open Go.RowKit
/-- A row as what is appended. -/
theorem row_src {w : World} {B : Nat} {e : TypeId} {sz : Nat} {v : Value} {n : Nat} {xs : List Value} (h : w.ownsRow B e sz v n xs) (h1 : ∀ u ∈ xs, u.oneCell' = true) : (v = .slice none 0 0 ∧ n = 0 ∧ xs = []) ∨ ∃ ad c, v = .slice (some ad) n c ∧ xs.length = n * sz ∧ (∀ j u, xs[j]? = some u → w.cell? (ad.add j) = some u) ∧ (∀ u ∈ xs, u.oneCell' = true) := by
  have hl := h.1
  rcases h.2 with ⟨hv, hn⟩ | ⟨g, cap, cur, hv, _⟩
  · exact .inl ⟨hv, hn, List.length_eq_zero_iff.1 (by rw [hl, hn, Nat.zero_mul])⟩
  · exact .inr ⟨_, cap, hv, hl, h.cells (by rw [hv]; rfl), h1⟩
theorem ptrs_one {l : List Nat} : ∀ u ∈ ptrs l, u.oneCell' = true := fun u hu => by
  obtain ⟨x, _, rfl⟩ := List.mem_map.1 hu
  rfl
theorem append_pp {w : World} {ops : Array Oper} {rest : List Oper} {o : Oper} {a : Act} {Q : Exit → Act → World → Prop} (hgd : o.guard = none) (s x : Operand)
    (ho : o.op = .call { callee := .builtin .append, args := #[s, x], argTypes := #[92, 92] })
    (B B2 : Nat) (v vx : Value) (l m : List Nat) (hs : a.eval s = v) (hown : RowP w B v l) (hx : a.eval x = vx) (hox : RowP w B2 vx m) (h10 : l.length + m.length ≤ 1000000) (hB : B ≤ w.heap.size)
    (h : ∀ v' w', RowP w' B v' (l ++ m) → w.grownBy w' v.ownBlock → (v'.ownBlock = v.ownBlock ∨ v'.ownBlock = some w.heap.size) → wpList Try.prog ops Q rest (a.put o.dst v') w') :
    wpList Try.prog ops Q (o :: rest) a w := by
  obtain ⟨i0, hi, hzz⟩ := Option.map_eq_some_iff.1 infoP
  simp only [Prod.mk.injEq] at hzz
  obtain ⟨hz0, hz1, hz2⟩ := hzz
  refine append_rows hgd s x 92 ho B 72 i0 (.pointer none) 1 8 Try.underlying92 hi hz0 hz1 hz2 rfl (by decide) v l.length (ptrs l) hs hown vx m.length (ptrs m) hx (row_src hox ptrs_one) (by unfold maxLen; omega) (by omega) hB (fun v' w' h1 h2 _ h4 => h v' w' ?_ h2 h4)
  unfold RowP ptrs
  rw [List.length_append, List.map_append]; exact h1
theorem append_p2 {w : World} {ops : Array Oper} {rest : List Oper} {o : Oper} {a : Act} {Q : Exit → Act → World → Prop} (hgd : o.guard = none) (s x : Operand)
    (ho : o.op = .call { callee := .builtin .append, args := #[s, x], argTypes := #[92, 92] })
    (B : Nat) (v : Value) (l : List Nat) (ad : Addr) (t : Nat) (c : Nat) (hs : a.eval s = v) (hown : RowP w B v l) (hx : a.eval x = .slice (some ad) 1 c) (hc : w.cell? (ad.add 0) = some (.pointer (some ⟨t, 0, none⟩))) (h10 : l.length ≤ 1000000) (hB : B ≤ w.heap.size)
    (h : ∀ v' w', RowP w' B v' (l ++ [t]) → w.grownBy w' v.ownBlock → (v'.ownBlock = v.ownBlock ∨ v'.ownBlock = some w.heap.size) → wpList Try.prog ops Q rest (a.put o.dst v') w') :
    wpList Try.prog ops Q (o :: rest) a w := by
  obtain ⟨i0, hi, hzz⟩ := Option.map_eq_some_iff.1 infoP
  simp only [Prod.mk.injEq] at hzz
  obtain ⟨hz0, hz1, hz2⟩ := hzz
  refine wpList_append_own_at _ hgd s x 92 ho B 72 i0 (.pointer none) 1 8 Try.underlying92 hi hz0 hz1 hz2 rfl (by decide) v l.length (ptrs l) hs hown ad 1 c [.pointer (some ⟨t, 0, none⟩)] hx rfl ?_ ?_ (by unfold maxLen; omega) (by omega) hB (fun v' w' h1 h2 _ h4 => h v' w' ?_ h2 h4)
  · intro j u' hj
    match j, hj with
    | 0, hj => simp at hj; subst hj; exact hc
  · intro u' hu; simp at hu; subst hu; rfl
  · unfold RowP ptrs
    rw [List.length_append, List.map_append]; exact h1
/-- append of waiters to waiters, as a step of a region that draws. -/
theorem step_append_pp {ops : Array Oper} {o : Oper} {a : Act} {w : World} {K : Act → World → Prop} {Q : Exit → Act → World → Prop} {E : Prop}
    (hg : o.guard = none) (s x : Operand) (hop : o.op = Op.call { callee := Callee.builtin Builtin.append, args := #[s, x], argTypes := #[92, 92] })
    (B B2 : Nat) (v vx : Value) (l m : List Nat) (hs : a.eval s = v) (hown : RowP w B v l) (hx : a.eval x = vx) (hox : RowP w B2 vx m) (h10 : l.length + m.length ≤ 1000000) (hB : B ≤ w.heap.size)
    (hK : ∀ v' w', RowP w' B v' (l ++ m) → w.grownBy w' v.ownBlock → (v'.ownBlock = v.ownBlock ∨ v'.ownBlock = some w.heap.size) → K (a.put o.dst v') w') :
    if Region.wanted o (yielded ops a.tmps) = true then Oper.wp Try.prog o a w K Q else E := by
  have hw : Region.wanted o (yielded ops a.tmps) = true := by simp [Region.wanted, hg]
  rw [if_pos hw]
  obtain ⟨i0, hi, hzz⟩ := Option.map_eq_some_iff.1 infoP
  simp only [Prod.mk.injEq] at hzz
  obtain ⟨hz0, hz1, hz2⟩ := hzz
  rcases row_src hox ptrs_one with ⟨rfl, hm0, hy0⟩ | ⟨ad, c, rfl, hl, hc, h1⟩
  · have e : m = [] := List.length_eq_zero_iff.1 hm0
    subst e
    have hrun := run_append_nil (P := Try.prog) (w := w) B 92 o.type 72 i0 1 Try.underlying92 hi v l.length (ptrs l) 0 hown
    unfold Oper.wp
    simp [execOp, hop, resolve, invoke, builtin, hs, hx, hrun, Result.andThen]
    exact hK v w (by rw [List.append_nil]; exact hown) ⟨rfl, rfl, rfl, Nat.le_refl _, fun _ _ _ => rfl⟩ (.inl rfl)
  · obtain ⟨v', w', hrun, r1, r2, _, r4⟩ := run_append_own_at (P := Try.prog) w B 92 o.type 72 i0 _ 1 8 Try.underlying92 hi hz0 hz1 hz2 rfl (by decide) v l.length (ptrs l) hown ad m.length c (ptrs m) hl hc h1 (by unfold maxLen; omega) (by omega) hB
    unfold Oper.wp
    simp [execOp, hop, resolve, invoke, builtin, hs, hx, hrun, Result.andThen]
    refine hK v' w' ?_ r2 r4
    unfold RowP ptrs
    rw [List.length_append, List.map_append]
    exact r1
section
variable {B : Nat} {W X : World} {T ml mh mw n K : Nat} {s : Lk} {q1 q2 : List Nat}
set_option maxRecDepth 100000 in
set_option maxHeartbeats 1000000 in
theorem line_row (h1 : QAt W K 2 q1) (h2 : QAt W K 4 q2) (hl : q1.length + q2.length ≤ 100000) :
    Calls Try.prog 44 #[.pointer (some ⟨K, 0, none⟩)] W fun e W' => ∃ v, e = .returned v ∧ RowP W' W.heap.size v (q1 ++ q2) ∧ Below W.heap.size W W' := by
  have hbd : Below W.heap.size W W.drew := (Below.refl _ _).drew
  have K1 := Lib.hid (all_any (h1.below hbd) (by omega))
  have K2 := Lib.hid (fun X (hX : Below W.heap.size W X) => all_any (h2.below hX) (by omega))
  clear h1 h2
  have HBD := Lib.hid hbd
  clear hbd
  go_enter Try.func44, Try.ntmps44
  go_upto_region 1 with fail
  go_region_law ((first
    | (go_simp; go_at_call 62; (with_reducible refine K1.out.mono ?_); rintro x w1 ⟨v1, rfl, hr1, hb1⟩; have HB1 := Lib.hid (HBD.out.trans hb1); have HR1 := Lib.hid hr1; have HZ : Hid (w1 = w1) := rfl; clear hb1 hr1; go_simp)
    | (go_simp; go_at_call 62; (with_reducible refine (K2.out _ HB1.out).mono ?_); rintro x w2 ⟨v2, rfl, hr2, hb2⟩; have HR2 := Lib.hid hr2; have HR3 := Lib.hid (HR1.out.below hb2); have HB2 := Lib.hid (HB1.out.trans (hb2.mono HB1.out.size)); clear hb2 hr2; go_simp)
    | (refine step_append_pp (by rfl) _ _ (by rfl) W.heap.size w1.heap.size v1 v2 q1 q2 (by rfl) HR3.out (by rfl) HR2.out (by omega) HB2.out.size ?_; intro v3 w3 hr3 hg3 _; have HR := Lib.hid hr3; have HB := Lib.hid (HB2.out.grown hg3 HB2.out.size (fun g hg => (World.ownsRow.lt HR3.out g hg).1)); clear hr3 hg3)))
  all_goals
    go_wp2
    go_ret
    exact ⟨_, rfl, HR.out, HB.out⟩
/-- A key's waiters, in order. -/
def lineO (s : Lk) (k : ByteArray) : List Int := (s.q 1 k ++ s.q 2 k).map fun y => (s.con y).ow
theorem RowI.below {v : Value} {ts : List Int} (h : RowI W B v ts) (hb : Below W.heap.size W X) : RowI X B v ts :=
  World.ownsRow.kept h (row := none) ⟨hb.os, hb.tape, hb.output, hb.size, fun k hk _ => hb.block k hk⟩ (by cases v.ownBlock with
    | none => exact .inl rfl
    | some k => exact .inr (fun e => by cases e))
theorem rowI_mono {v : Value} {ts : List Int} {B' : Nat} (h : RowI W B v ts) (hb : B' ≤ B) : RowI W B' v ts := ⟨h.1, h.2.imp id fun ⟨g, cap, cur, q1, q2, q3⟩ => ⟨g, cap, cur, q1, Nat.le_trans hb q2, q3⟩⟩
theorem RowP.cell {v : Value} {l : List Nat} (h : RowP W B v l) {j : Nat} (hj : j < l.length) : ∃ g c, v = .slice (some ⟨g, 0, none⟩) l.length c ∧ ∀ Y : World, Y.heap[g]? = W.heap[g]? → Y.cell? ⟨g, j, none⟩ = some (.pointer (some ⟨l[j], 0, none⟩)) := by
  rcases h.2 with ⟨_, hn⟩ | ⟨g, cap, cur, hv, _⟩
  · omega
  · refine ⟨g, cap, hv, fun X hX => ?_⟩
    have h' : W.ownsRow B 72 1 (.slice (some ⟨g, 0, none⟩) l.length cap) l.length (ptrs l) := hv ▸ h
    rw [World.cell?_of_block (a := ⟨g, j, none⟩) hX, World.ownsRow.cellAt h' j (by omega)]
    unfold ptrs
    rw [List.getElem?_map, List.getElem?_eq_getElem hj]; rfl
set_option maxRecDepth 100000 in
set_option maxHeartbeats 2000000 in
theorem line_no (h : LkAt B W T ml mh mw n s) {k : ByteArray} (hks : k.size ≤ maxLen) (hk : s.lk k = none) :
    Calls Try.prog 19 #[.pointer (some ⟨T, 0, none⟩), .string k] W fun e W' => e = .returned (.slice none 0 0) ∧ W = W' := by
  have KM := Lib.hid (made_any h)
  have l3 := h.m0.look lockMap k hks
  rw [hk] at l3
  replace l3 : (Instr.lookup 56 (.map (some ml)) (.string k) false).run Try.prog W = .ok (.pointer none) W := l3
  have t0 := h.t0
  clear h hk
  go_enter Try.func19, Try.ntmps19
  go_wp2_with fail
  refine KM.out.mono ?_
  rintro e w1 ⟨rfl, rfl⟩
  clear KM
  go_wp2
  go_ret
  exact ⟨rfl, rfl⟩
structure LnW (W wr : World) (v : Value) (os : List Int) : Prop where
  row : RowI wr W.heap.size v os
  bw : Below W.heap.size W wr
  f0 : os = [] → v = .slice none 0 0
set_option maxRecDepth 100000 in
set_option maxHeartbeats 4000000 in
theorem line_yes (h : LkAt B W T ml mh mw n s) {k : ByteArray} (hks : k.size ≤ maxLen) {K0 : Nat} (hk : s.lk k = some K0) (hl : (s.q 1 k).length + (s.q 2 k).length ≤ 100000) :
    Calls Try.prog 19 #[.pointer (some ⟨T, 0, none⟩), .string k] W fun e W' => ∃ v, e = .returned v ∧ RowI W' W.heap.size v (lineO s k) ∧ (lineO s k = [] → v = .slice none 0 0) ∧ Below W.heap.size W W' := by
  have KM := Lib.hid (made_any h)
  have l3 := h.m0.look lockMap k hks
  rw [hk] at l3
  replace l3 : (Instr.lookup 56 (.map (some ml)) (.string k) false).run Try.prog W = .ok (.pointer (some ⟨K0, 0, none⟩)) W := l3
  have t0 := h.t0
  have KL := Lib.hid (line_row (h.qa k K0 hk 1 (by decide)) (h.qa k K0 hk 2 (by decide)) hl)
  have HWC : Hid (∀ X, Below W.heap.size W X → ∀ y, y ∈ s.q 1 k ++ s.q 2 k → WtAt X y (s.con y)) := fun X hX y hy => by
    rcases List.mem_append.1 hy with c | c
    · exact (h.below hX).wc 1 k y (by decide) c
    · exact (h.below hX).wc 2 k y (by decide) c
  have hll : (s.q 1 k ++ s.q 2 k).length ≤ 100000 := by rw [List.length_append]; exact hl
  have hlo : lineO s k = (s.q 1 k ++ s.q 2 k).map fun y => (s.con y).ow := rfl
  rw [hlo]
  clear h hk hl hlo
  generalize s.q 1 k ++ s.q 2 k = L at *
  go_enter Try.func19, Try.ntmps19
  go_wp2_with fail
  refine KM.out.mono ?_
  rintro e w0 ⟨rfl, rfl⟩
  clear KM
  go_wp2_with fail
  refine KL.out.mono ?_
  rintro e w1 ⟨vr, rfl, hr1, hb1⟩
  have HR1 := Lib.hid hr1
  have HB1 := Lib.hid hb1
  obtain ⟨ar, cr, hvr⟩ : ∃ a c, vr = .slice a L.length c := by
    obtain ⟨a, c, e, _⟩ := hr1.form
    exact ⟨a, c, e⟩
  subst hvr
  have S0 : Hid (LnW w1 w1 (.slice none 0 0) ((L.take 0).map fun y => (s.con y).ow)) := ⟨World.ownsRow_nil _ _ _ _, Below.refl _ _, fun _ => rfl⟩
  have hli : (L.length : Int) ≤ 100000 := by omega
  clear hr1 hb1 KL l3 t0
  go_wp2
  go_loopw [5, 7, 28] (fun v _ i wr => ∃ j : Nat, i = .int .i64 (j : Int) ∧ j ≤ L.length ∧ Hid (LnW w1 wr v ((L.take j).map fun y => (s.con y).ow))) (fun _ _ i _ => L.length - (intOf i).toNat)
  case atStart => exact ⟨0, rfl, Nat.zero_le _, S0⟩
  case round =>
    obtain ⟨j, rfl, hj, st⟩ := hrel
    rename World => wr
    clear S0
    by_cases hlt : j < L.length
    · obtain ⟨g, c, hv, hcell⟩ := HR1.out.cell hlt
      cases hv
      have hgb := (World.ownsRow.lt HR1.out g rfl).2
      have hc := hcell wr (st.out.bw.block g hgb)
      have htk : L.take (j + 1) = L.take j ++ [L[j]] := List.take_succ_eq_append_getElem hlt
      have HT := Lib.hid htk
      have hwt := HWC.out wr (HB1.out.trans (st.out.bw.mono HB1.out.size)) L[j] (List.getElem_mem hlt)
      generalize L[j] = y at *
      have c2 := hwt.c2
      have hba : Below wr.heap.size wr (wr.alloc (.cells #[.int .i64 (s.con y).ow] 3)) := (Below.refl _ _).alloc (Nat.le_refl _) _
      have hs1 : w1.heap.size ≤ wr.heap.size := st.out.bw.size
      have HRI := Lib.hid (st.out.row.below hba)
      have HBB := Lib.hid (st.out.bw.trans (hba.mono hs1))
      have hcl : (wr.alloc (.cells #[.int .i64 (s.con y).ow] 3)).cell? ((⟨wr.heap.size, 0, none⟩ : Addr).add 0) = some (.int .i64 (s.con y).ow) := new_cell rfl rfl
      have hs2 : w1.heap.size ≤ (wr.alloc (.cells #[.int .i64 (s.con y).ow] 3)).heap.size := by rw [World.size_alloc]; omega
      have hlen : ((L.take j).map fun y => (s.con y).ow).length ≤ 1000000 := by rw [List.length_map, List.length_take]; omega
      have HLT := Lib.hid hlt
      clear hwt hba hcell htk
      go_wp2_with (at_builtin; refine append_i2 rfl _ _ rfl w1.heap.size u5 ((L.take j).map fun y => (s.con y).ow) ⟨wr.heap.size, 0, none⟩ (s.con y).ow 1 rfl HRI.out rfl hcl hlen hs2 ?_)
      intro v8 w8 hr8 hg8 ho8
      have ST : Hid (LnW w1 w8 v8 ((L.take (j + 1)).map fun y => (s.con y).ow)) := ⟨by rw [HT.out, List.map_append, List.map_take]; exact hr8, HBB.out.grown hg8 hs2 (fun g hg => (World.ownsRow.lt HRI.out g hg).1), fun e => by rw [HT.out] at e; simp at e⟩
      clear hr8 hg8 ho8 HRI HBB hcl st hs1 hs2 hlen
      go_wp2
      go_roundw
      case rel => exact ⟨j + 1, by go_num, HLT.out, ST⟩
      case measure => simp [intOf]; have := HLT.out; omega
    · obtain rfl : j = L.length := by omega
      have h1 := st.out
      rw [List.take_length] at h1
      have HP : Hid (∃ v, Ending.returned u5 = .returned v ∧ RowI wr W.heap.size v (L.map fun y => (s.con y).ow) ∧ ((L.map fun y => (s.con y).ow) = [] → v = .slice none 0 0) ∧ Below W.heap.size W wr) := ⟨u5, rfl, rowI_mono h1.row HB1.out.size, h1.f0, HB1.out.trans (h1.bw.mono HB1.out.size)⟩
      clear h1 st
      go_wp2
      go_ret
      exact HP.out
theorem line_all (h : LkAt B W T ml mh mw n s) {k : ByteArray} (hks : k.size ≤ 1000) (hl : (s.q 1 k).length + (s.q 2 k).length ≤ 100000) :
    Calls Try.prog 19 #[.pointer (some ⟨T, 0, none⟩), .string k] W fun e W' => ∃ v, e = .returned v ∧ RowI W' W.heap.size v (lineO s k) ∧ (lineO s k = [] → v = .slice none 0 0) ∧ Below W.heap.size W W' := by
  cases e : s.lk k with
  | none =>
    refine (line_no h (show k.size ≤ maxLen by unfold maxLen; omega) e).mono ?_
    rintro e' W' ⟨rfl, rfl⟩
    have : lineO s k = [] := by unfold lineO; rw [h.qn k e 1, h.qn k e 2]; rfl
    rw [this]
    exact ⟨_, rfl, World.ownsRow_nil _ _ _ _, fun _ => rfl, Below.refl _ _⟩
  | some K0 => exact line_yes h (show k.size ≤ maxLen by unfold maxLen; omega) e hl
end
end Go.Proofs.Ytgabdlnbencglaa
