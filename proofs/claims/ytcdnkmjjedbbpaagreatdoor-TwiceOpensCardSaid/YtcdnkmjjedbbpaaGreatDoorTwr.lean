/-
  A ROW OF PAGES OF THE LAW's OWN; the contracts of great and empty of law 12.
  THE CONTRACTS OF great and same of law 12.
-/
import Derived.Test.YtcdnkmjjedbbpaaGreatDoorTwWake
namespace Go.Proofs.YtcdnkmjjedbbpaaGreatDoor
open Go.RowKit
def pgC (q : PgV) : List Value := [.int .i64 q.no, .int .i64 q.g, .slice q.a q.l.length q.c]
def pgsC (ps : List PgV) : List Value := ps.flatMap pgC
theorem pgsC_len : ∀ ps : List PgV, (pgsC ps).length = ps.length * 3
  | [] => rfl
  | c :: l => by
    have := pgsC_len l
    unfold pgsC at this ⊢
    rw [List.flatMap_cons, List.length_append, this]
    show 3 + l.length * 3 = (l.length + 1) * 3
    omega
theorem pgsC_append (a b : List PgV) : pgsC (a ++ b) = pgsC a ++ pgsC b := by unfold pgsC; rw [List.flatMap_append]
theorem pgsC_get : ∀ (ps : List PgV) (i : Nat), i < ps.length → (pgsC ps)[i * 3]? = some (.int .i64 (ps.getD i noPg).no) ∧ (pgsC ps)[i * 3 + 1]? = some (.int .i64 (ps.getD i noPg).g) ∧ (pgsC ps)[i * 3 + 2]? = some (.slice (ps.getD i noPg).a (ps.getD i noPg).l.length (ps.getD i noPg).c)
  | c :: l, 0, _ => ⟨rfl, rfl, rfl⟩
  | c :: l, i + 1, h => by
    have ih := pgsC_get l i (by simpa using h)
    have e : pgsC (c :: l) = .int .i64 c.no :: .int .i64 c.g :: .slice c.a c.l.length c.c :: pgsC l := rfl
    have e2 : (i + 1) * 3 = i * 3 + 1 + 1 + 1 := by omega
    rw [e, e2]
    simp only [List.getElem?_cons_succ]
    exact ih
theorem pgsC_set : ∀ (ps : List PgV) (i : Nat) (q : PgV), i < ps.length → (((pgsC ps).set (i * 3) (.int .i64 q.no)).set (i * 3 + 1) (.int .i64 q.g)).set (i * 3 + 2) (.slice q.a q.l.length q.c) = pgsC (ps.set i q)
  | c :: l, 0, q, _ => rfl
  | c :: l, i + 1, q, h => by
    have ih := pgsC_set l i q (by simpa using h)
    have e : pgsC (c :: l) = .int .i64 c.no :: .int .i64 c.g :: .slice c.a c.l.length c.c :: pgsC l := rfl
    have e2 : (i + 1) * 3 = i * 3 + 1 + 1 + 1 := by omega
    rw [e, e2]
    simp only [List.set_cons_succ]
    rw [ih]; rfl
/-- A row of pages of the law's own. -/
def RowP (W : World) (B : Nat) (v : Value) (ps : List PgV) : Prop := W.ownsRow B 36 3 v ps.length (pgsC ps)
section
variable {W : World} {B : Nat} {v : Value} {ps : List PgV}
theorem RowP.below {W' : World} (h : RowP W B v ps) (hb : Below W.heap.size W W') : RowP W' B v ps :=
  World.ownsRow.kept h (row := none) ⟨hb.os, hb.tape, hb.output, hb.size, fun k hk _ => hb.block k hk⟩ (by cases v.ownBlock with
    | none => exact .inl rfl
    | some k => exact .inr (fun e => by cases e))
theorem RowP.at {R cap n : Nat} (h : RowP W B (.slice (some ⟨R, 0, none⟩) n cap) ps) : n = ps.length ∧ R < W.heap.size ∧ B ≤ R := by
  rcases h.2 with ⟨hv, _⟩ | ⟨g, cap2, cur, hv, hb, hg, r⟩
  · cases hv
  · injection hv with e1 e2 _
    injection e1 with e1
    injection e1 with e1 _
    subst e1
    exact ⟨e2, Dv.blk_lt hg, hb⟩
theorem RowP.fr3 {W' : World} {P L M R cap : Nat} (h : RowP W B (.slice (some ⟨R, 0, none⟩) ps.length cap) ps) (hf : Dv.Fr3 P L M W W') (h1 : R ≠ P) (h2 : R ≠ L) (h3 : R ≠ M) : RowP W' B (.slice (some ⟨R, 0, none⟩) ps.length cap) ps := by
  rcases h.2 with ⟨hv, _⟩ | ⟨g, cap2, cur, hv, hb, hg, r⟩
  · cases hv
  · have hv2 := hv
    injection hv2 with e1 _ _
    injection e1 with e1
    injection e1 with e1 _
    subst e1
    exact ⟨h.1, .inr ⟨_, cap2, cur, hv, hb, (hf.block _ (Dv.blk_lt hg) h1 h2 h3).trans hg, r⟩⟩
theorem RowP.cells {R cap : Nat} (h : RowP W B (.slice (some ⟨R, 0, none⟩) ps.length cap) ps) (i : Nat) (hi : i < ps.length) : W.cell? ⟨R, i * 3, none⟩ = some (.int .i64 (ps.getD i noPg).no) ∧ W.cell? ⟨R, i * 3 + 1, none⟩ = some (.int .i64 (ps.getD i noPg).g) ∧
    W.cell? ⟨R, i * 3 + 2, none⟩ = some (.slice (ps.getD i noPg).a (ps.getD i noPg).l.length (ps.getD i noPg).c) := by
  obtain ⟨h1, h2, h3⟩ := pgsC_get ps i hi
  rw [World.ownsRow.cellAt h (i * 3) (by omega), World.ownsRow.cellAt h (i * 3 + 1) (by omega), World.ownsRow.cellAt h (i * 3 + 2) (by omega)]
  exact ⟨h1, h2, h3⟩
theorem RowP.pgs {R cap : Nat} (h : RowP W B (.slice (some ⟨R, 0, none⟩) ps.length cap) ps) (hc : ∀ i, i < ps.length → ClsAt W (ps.getD i noPg).a (ps.getD i noPg).l) : PgsAt W (some ⟨R, 0, none⟩) ps := .inr ⟨R, 0, rfl, fun i hi => by
  obtain ⟨h1, h2, h3⟩ := h.cells i hi
  rw [Nat.zero_add]
  exact ⟨h1, h2, h3, hc i hi⟩⟩
/-- A page stored into the row. -/
theorem RowP.set {R cap : Nat} (h : RowP W B (.slice (some ⟨R, 0, none⟩) ps.length cap) ps) (i : Nat) (hi : i < ps.length) (q : PgV) :
    RowP (((W.setCell ⟨R, i * 3, none⟩ (.int .i64 q.no)).setCell ⟨R, i * 3 + 1, none⟩ (.int .i64 q.g)).setCell ⟨R, i * 3 + 2, none⟩ (.slice q.a q.l.length q.c)) B (.slice (some ⟨R, 0, none⟩) ps.length cap) (ps.set i q) := by
  have h1 := (World.ownsRow.stored h (i * 3) (.int .i64 q.no)).1
  have h2 := (World.ownsRow.stored h1 (i * 3 + 1) (.int .i64 q.g)).1
  have h3 := (World.ownsRow.stored h2 (i * 3 + 2) (.slice q.a q.l.length q.c)).1
  rw [pgsC_set ps i q hi] at h3
  unfold RowP
  rw [List.length_set]
  exact h3
end
theorem infoP : (Tryz.prog.info? 36).map (fun i => (i.zero, i.size, i.bytes)) = some (some (.agg #[.int .i64 0, .int .i64 0, .slice none 0 0]), 3, 40) := by kernel_rfl
theorem pgC_one : ∀ q : PgV, ∀ u ∈ pgC q, u.oneCell' = true := by
  intro q u hu
  unfold pgC at hu
  simp at hu
  rcases hu with rfl | rfl | rfl <;> rfl
/-- append of a page that was made for it. -/
theorem append_pg {W0 : World} {ops : Array Oper} {rest : List Oper} {o : Oper} {a : Act} {Q : Exit → Act → World → Prop} (hgd : o.guard = none) (s x : Operand)
    (ho : o.op = .call { callee := .builtin .append, args := #[s, x], argTypes := #[31, 31] })
    (B : Nat) (v : Value) (ps : List PgV) (R : Nat) (q : PgV) (c : Nat) (hs : a.eval s = v) (hown : RowP W0 B v ps) (hx : a.eval x = .slice (some ⟨R, 0, none⟩) 1 c)
    (c0 : W0.cell? ⟨R, 0, none⟩ = some (.int .i64 q.no)) (c1 : W0.cell? ⟨R, 1, none⟩ = some (.int .i64 q.g)) (c2 : W0.cell? ⟨R, 2, none⟩ = some (.slice q.a q.l.length q.c)) (h10 : ps.length ≤ 1000) (hB : B ≤ W0.heap.size)
    (h : ∀ v' w', RowP w' B v' (ps ++ [q]) → W0.grownBy w' v.ownBlock → (v' = .slice none 0 0 ↔ v = .slice none 0 0 ∧ 1 = 0) → wpList Tryz.prog ops Q rest (a.put o.dst v') w') :
    wpList Tryz.prog ops Q (o :: rest) a W0 := by
  obtain ⟨i0, hi, hzz⟩ := Option.map_eq_some_iff.1 infoP
  simp only [Prod.mk.injEq] at hzz
  obtain ⟨hz0, hz1, hz2⟩ := hzz
  refine wpList_append_own_at _ hgd s x 31 ho B 36 i0 _ 3 40 Tryz.underlying31 hi hz0 hz1 hz2 rfl (by decide) v ps.length (pgsC ps) hs hown ⟨R, 0, none⟩ 1 c (pgC q) hx rfl (fun j u hj => ?_) (pgC_one q) (by unfold maxLen; omega) (by omega) hB (fun v' w' h1 h2 h3 _ => h v' w' ?_ h2 h3)
  · have ea : (⟨R, 0, none⟩ : Addr).add j = ⟨R, 0 + j, none⟩ := by unfold Addr.add; split <;> simp_all
    rw [ea, Nat.zero_add]
    match j, hj with
    | 0, hj => rw [← hj]; exact c0
    | 1, hj => rw [← hj]; exact c1
    | 2, hj => rw [← hj]; exact c2
  · unfold RowP
    rw [List.length_append, pgsC_append]
    have : pgsC [q] = pgC q := by unfold pgsC; simp
    rw [this]; exact h1
theorem own_below {wa W X : World} {v : Value} {ps : List PgV} (hb : Below wa.heap.size wa W) (hg : W.grownBy X v.ownBlock) (hown : RowP W wa.heap.size v ps) : Below wa.heap.size wa X :=
  ⟨hg.os.trans hb.os, hg.tape.trans hb.tape, hg.output.trans hb.output, Nat.le_trans hb.size hg.size, fun k hk => (hg.block k (Nat.lt_of_lt_of_le hk hb.size) (fun e => by
    have := (World.ownsRow.lt hown k e.symm).1
    omega)).trans (hb.block k hk)⟩
theorem RowP.slice {W : World} {B : Nat} {v : Value} {ps : List PgV} (h : RowP W B v ps) : (v = .slice none 0 0 ∧ ps = []) ∨ ∃ R cap, v = .slice (some ⟨R, 0, none⟩) ps.length cap ∧ B ≤ R := by
  rcases h.2 with ⟨hv, hz⟩ | ⟨g, cap, cur, hv, hb, hg, r⟩
  · exact .inl ⟨hv, List.length_eq_zero_iff.1 hz⟩
  · exact .inr ⟨g, cap, hv, hb⟩
/-- So many empty pages. -/
def emP (n : Nat) : List PgV := (List.range n).map fun i : Nat => (⟨(i : Int), 0, none, 0, []⟩ : PgV)
theorem emP_succ (n : Nat) : emP (n + 1) = emP n ++ [⟨(n : Int), 0, none, 0, []⟩] := by unfold emP; rw [List.range_succ, List.map_append]; rfl
theorem emP_len (n : Nat) : (emP n).length = n := by unfold emP; simp
theorem emP_get (n i : Nat) (h : i < n) : (emP n).getD i noPg = ⟨(i : Int), 0, none, 0, []⟩ := by
  unfold emP
  rw [List.getD_eq_getElem?_getD, List.getElem?_map, List.getElem?_range h]; rfl
set_option maxRecDepth 100000 in
set_option maxHeartbeats 4000000 in
theorem empty_any (n : Nat) (hn : n ≤ 100) (w : World) : Calls Tryz.prog 9 #[.int .i64 (n : Int)] w fun x w' => ∃ v, x = .returned v ∧ RowP w' w.heap.size v (emP n) ∧ Below w.heap.size w w' := by
  have n0 : (0 : Int) ≤ (n : Int) := by omega
  have n1 : (n : Int) ≤ 100 := by omega
  go_enter Tryz.func9, Tryz.ntmps9
  go_wp2
  go_loopw [3, 4] (fun v3 v4 wr => ∃ k : Nat, k ≤ n ∧ v4 = .int .i64 k ∧ Hid (RowP wr w.heap.size v3 (emP k)) ∧ Hid (Below w.heap.size w wr)) (fun _ v4 _ => n - (intOf v4).toNat)
  case atStart => exact ⟨0, Nat.zero_le _, rfl, World.ownsRow_nil _ _ _ _, Below.refl _ _⟩
  case round =>
    obtain ⟨k, hk, rfl, HR, HB⟩ := hrel
    rename_i v3 _ _
    rename World => wa
    have hk0 : (0 : Int) ≤ (k : Int) := by omega
    by_cases hlt : k < n
    · have hk1 : (k : Int) < (n : Int) := by omega
      have hba := (Below.refl wa.heap.size wa).alloc (Nat.le_refl _) (.cells #[.int .i64 (k : Int), .int .i64 0, .slice none 0 0] 36)
      have R1 := Lib.hid (HR.out.below hba)
      have B1 := Lib.hid (HB.out.trans (hba.mono HB.out.size))
      have hl := emP_len k
      have hl2 : (emP k).length ≤ 1000 := by omega
      clear hba hl HR
      go_wp2_with (at_builtin; refine append_pg rfl _ _ rfl w.heap.size _ (emP k) wa.heap.size ⟨(k : Int), 0, none, 0, []⟩ 1 rfl R1.out rfl (Dv.new_cell rfl rfl) (Dv.new_cell rfl rfl) (Dv.new_cell rfl rfl) hl2 B1.out.size ?_)
      intro v' w8 r1 hg hnil
      have R2 : Hid (RowP w8 w.heap.size v' (emP (k + 1))) := by rw [emP_succ]; exact r1
      have B2 : Hid (Below w.heap.size w w8) := own_below B1.out hg R1.out
      clear r1 hg hnil R1 B1
      go_wp2
      go_roundw
      case rel => exact ⟨k + 1, by omega, by go_num, R2, B2⟩
      case measure => simp [intOf]; omega
    · have hk1 : (n : Int) ≤ (k : Int) := by omega
      have hkn : k = n := by omega
      rw [hkn] at HR
      go_wp2
      go_ret
      exact ⟨_, rfl, HR.out, HB.out⟩
end Go.Proofs.YtcdnkmjjedbbpaaGreatDoor

namespace Go.Proofs.YtcdnkmjjedbbpaaGreatDoor
open Go.RowKit
def psGreat (ps : List PgV) : Bool := decide (20 < ps.length) || ps.any fun q => clGreat q.l
theorem psGreat_no {ps : List PgV} (h : psGreat ps = false) : ps.length ≤ 20 ∧ ∀ i, i < ps.length → clGreat (ps.getD i noPg).l = false := by
  unfold psGreat at h
  rw [Bool.or_eq_false_iff] at h
  obtain ⟨h1, h2⟩ := h
  refine ⟨by simpa using h1, fun i hi => ?_⟩
  rw [List.any_eq_false] at h2
  have := h2 (ps.getD i noPg) (by rw [List.getD_eq_getElem?_getD, List.getElem?_eq_getElem hi]; exact List.getElem_mem _)
  simpa using this
theorem any_take {ps : List PgV} {k : Nat} (hk : k < ps.length) (h : (ps.take k).any (fun q => clGreat q.l) = false) (h2 : clGreat (ps.getD k noPg).l = false) : (ps.take (k + 1)).any (fun q => clGreat q.l) = false := by
  rw [List.take_succ_eq_append_getElem hk, List.any_append, h]
  rw [List.getD_eq_getElem?_getD, List.getElem?_eq_getElem hk] at h2
  simpa using h2
set_option maxRecDepth 100000 in
set_option maxHeartbeats 4000000 in
theorem great12_any (a : Option Addr) (ps : List PgV) (c : Nat) (w : World) (hn : ps.length ≤ maxLen) (ha : PgsAt w a ps) (hl : ∀ i, (ps.getD i noPg).l.length ≤ maxLen) :
    Calls Tryz.prog 10 #[.slice a ps.length c] w fun x w' => x = .returned (.bool (psGreat ps)) ∧ Below w.heap.size w w' := by
  unfold maxLen at hn
  by_cases h20 : 20 < ps.length
  · have e : psGreat ps = true := by unfold psGreat; rw [decide_eq_true h20]; rfl
    rw [e]
    have h21 : (20 : Int) < (ps.length : Int) := by omega
    clear ha hl e
    go_enter Tryz.func10, Tryz.ntmps10
    go_wp2
    go_ret
    exact ⟨rfl, Below.refl _ _⟩
  · have h21 : (ps.length : Int) ≤ 20 := by omega
    have HE : Hid (psGreat ps = ps.any fun q => clGreat q.l) := by rw [Hid]; unfold psGreat; rw [decide_eq_false h20]; rfl
    generalize hG : psGreat ps = G at HE ⊢
    have HA := Lib.hid ha
    have HLL := Lib.hid hl
    clear ha hl hG h20
    go_enter Tryz.func10, Tryz.ntmps10
    go_wp2
    go_loopw [3] (fun i wr => ∃ k : Nat, k ≤ ps.length ∧ i = .int .i64 k ∧ Hid ((ps.take k).any (fun q => clGreat q.l) = false) ∧ Hid (Below w.heap.size w wr)) (fun i _ => ps.length - (intOf i).toNat)
    case atStart => exact ⟨0, Nat.zero_le _, rfl, rfl, Below.refl _ _⟩
    case round =>
      obtain ⟨k, hk, rfl, HT, HB⟩ := hrel
      rename World => wa
      have hk0 : (0 : Int) ≤ (k : Int) := by omega
      by_cases hlt : k < ps.length
      · have hk1 : (k : Int) < (ps.length : Int) := by omega
        rcases HA.out.below HB.out with hnil | ⟨b, off, rfl, hcs⟩
        · rw [hnil] at hlt; exact absurd hlt (Nat.not_lt_zero _)
        obtain ⟨c0, c1, c2, hcl⟩ := hcs k hlt
        have hlq := HLL.out k
        have HT2 := Lib.hid (fun h => any_take hlt HT.out h)
        have HY : Hid (clGreat (ps.getD k noPg).l = true → G = true) := fun h => by
          rw [HE.out, List.any_eq_true]
          exact ⟨_, by rw [List.getD_eq_getElem?_getD, List.getElem?_eq_getElem hlt]; exact List.getElem_mem _, h⟩
        obtain ⟨q, hq⟩ : ∃ q, q = ps.getD k noPg := ⟨_, rfl⟩
        rw [← hq] at c0 c1 c2 hcl hlq HT2 HY
        have KG := Lib.hid (great_any q.no q.g q.a q.l q.c _ hlq hcl)
        obtain ⟨qn, hqn⟩ : ∃ z, z = q.no := ⟨_, rfl⟩
        obtain ⟨qg, hqg⟩ : ∃ z, z = q.g := ⟨_, rfl⟩
        obtain ⟨qa, hqa⟩ : ∃ z, z = q.a := ⟨_, rfl⟩
        obtain ⟨qm, hqm⟩ : ∃ z, z = q.l.length := ⟨_, rfl⟩
        obtain ⟨qc, hqc⟩ : ∃ z, z = q.c := ⟨_, rfl⟩
        rw [← hqn, ← hqg, ← hqa, ← hqm, ← hqc] at KG
        rw [← hqn] at c0
        rw [← hqg] at c1
        rw [← hqa, ← hqm, ← hqc] at c2
        clear hq hcl hcs hlq hqn hqg hqa hqm hqc
        cases hg : clGreat q.l with
        | true =>
          rw [hg] at KG
          have hGt := HY.out hg
          subst hGt
          clear HT2 HY hg
          go_wp2_with fail
          refine KG.out.mono ?_
          rintro x w2 ⟨rfl, hb2⟩
          have B2 := Lib.hid (HB.out.trans (hb2.mono HB.out.size))
          clear hb2 HB KG
          go_wp2
          go_ret
          exact ⟨rfl, B2.out⟩
        | false =>
          rw [hg] at KG
          have HT3 := Lib.hid (HT2.out hg)
          clear HT2 HY hg HT
          go_wp2_with fail
          refine KG.out.mono ?_
          rintro x w2 ⟨rfl, hb2⟩
          have B2 := Lib.hid (HB.out.trans (hb2.mono HB.out.size))
          clear hb2 HB KG c0 c1 c2
          go_wp2
          go_roundw
          case rel => exact ⟨k + 1, by omega, by go_num, HT3, B2⟩
          case measure => simp [intOf]; omega
      · have hk1 : (ps.length : Int) ≤ (k : Int) := by omega
        have hkl : k = ps.length := by omega
        have hGf : G = false := by
          have := HT.out
          rw [hkl, List.take_length] at this
          rw [HE.out, this]
        subst hGf
        go_wp2
        go_ret
        exact ⟨rfl, HB.out⟩
/-- A row of pages that reads as pages are. -/
def NowIs (np : Nat) (ps : List PgV) (now : Nat → Pg) : Prop := ps.length = np ∧ ∀ k, k < np → (ps.getD k noPg).no = (k : Int) ∧ ((ps.getD k noPg).g, (ps.getD k noPg).l) = now k
section
variable {w W : World} {D P L M n B T np : Nat} {now : Nat → Pg} {pm : Pm}
theorem c_page_out (h : Tk w W D P L M n B T np now pm) (no : Int) (hno : no < 0 ∨ (np : Int) ≤ no) : Calls Tryz.prog 19 #[.pointer (some ⟨T, 0, none⟩), .int .i64 no] W (Pg0 W 7) := by
  obtain ⟨s, q1, _⟩ := h
  exact page_out q1 no hno
theorem c_pages (h : Tk w W D P L M n B T np now pm) : Calls Tryz.prog 24 #[.pointer (some ⟨T, 0, none⟩)] W fun x w' => x = .returned (.int .i64 (np : Int)) ∧ W = w' := by
  obtain ⟨s, q1, _⟩ := h
  exact pages_s q1
theorem pgSame_rfl (a b : Int) (l : List (ByteArray × ByteArray)) : pgSame a b l a b l = true := by unfold pgSame; simp
set_option maxRecDepth 100000 in
set_option maxHeartbeats 4000000 in
theorem same12 (h : Tk w W D P L M n B T np now pm) (hon : pm ≠ .off) (hn : n ≤ 4096) (hfit : 5 + 4 * np ≤ n) (R : Nat) (ps : List PgV) (c : Nat) (hp : PgsAt W (some ⟨R, 0, none⟩) ps) (hnow : NowIs np ps now) (hsm : ∀ k, k < np → (now k).2.length ≤ 1000000) :
    Calls Tryz.prog 13 #[.pointer (some ⟨T, 0, none⟩), .slice (some ⟨R, 0, none⟩) np c] W fun x w' => x = .returned (.bool true) ∧ Below W.heap.size W w' := by
  have H := Lib.hid h
  have HP := Lib.hid hp
  have HN := Lib.hid hnow.2
  have hlen := hnow.1
  have HS := Lib.hid hsm
  have np0 : (np : Int) ≤ 4096 := by omega
  clear h hp hnow hsm
  go_enter Tryz.func13, Tryz.ntmps13
  go_wp2
  go_loopw [5] (fun i wr => ∃ k : Nat, k ≤ np ∧ i = .int .i64 k ∧ Hid (Below W.heap.size W wr)) (fun i _ => np - (intOf i).toNat)
  case atStart => exact ⟨0, Nat.zero_le _, rfl, Below.refl _ _⟩
  case round =>
    obtain ⟨k, hk, rfl, HB⟩ := hrel
    rename World => wa
    have hk0 : (0 : Int) ≤ (k : Int) := by omega
    by_cases hlt : k < np
    · have hk1 : (k : Int) < (np : Int) := by omega
      have KP := Lib.hid (c_page (H.out.below HB.out) hon hn hfit k hlt)
      obtain ⟨hno, hgl⟩ := HN.out k hlt
      have hs1 := HS.out k hlt
      have HX := Lib.hid (fun W1 (hb : Below W.heap.size W W1) => HP.out.below hb)
      go_wp2_with fail
      refine KP.out.mono ?_
      rintro x w1 ⟨_, a, c1, rfl, hr, hb1⟩
      have hba := (Below.refl w1.heap.size w1).alloc (Nat.le_refl _) (.cells #[.int .i64 (k : Int), .int .i64 (now k).1, .slice a (now k).2.length c1] 36)
      have B1 := Lib.hid ((HB.out.trans (hb1.mono HB.out.size)).trans (hba.mono (HB.out.trans (hb1.mono HB.out.size)).size))
      have CL1 := Lib.hid ((hr.below hba).clsAt)
      have p0 : (w1.alloc (.cells #[.int .i64 (k : Int), .int .i64 (now k).1, .slice a (now k).2.length c1] 36)).cell? ⟨w1.heap.size, 0, none⟩ = some (.int .i64 (k : Int)) := Dv.new_cell rfl rfl
      have p1 : (w1.alloc (.cells #[.int .i64 (k : Int), .int .i64 (now k).1, .slice a (now k).2.length c1] 36)).cell? ⟨w1.heap.size, 1, none⟩ = some (.int .i64 (now k).1) := Dv.new_cell rfl rfl
      have p2 : (w1.alloc (.cells #[.int .i64 (k : Int), .int .i64 (now k).1, .slice a (now k).2.length c1] 36)).cell? ⟨w1.heap.size, 2, none⟩ = some (.slice a (now k).2.length c1) := Dv.new_cell rfl rfl
      rcases HX.out _ B1.out with hnil | ⟨b, off, e, hcs⟩
      · rw [hnil] at hlen; rw [← hlen] at hlt; exact absurd hlt (Nat.not_lt_zero _)
      injection e with e
      injection e with eb eo _
      subst eb eo
      obtain ⟨d0, d1, d2, dcl⟩ := hcs k (by omega)
      obtain ⟨q, hq⟩ : ∃ q, q = ps.getD k noPg := ⟨_, rfl⟩
      rw [← hq] at d0 d1 d2 dcl hno hgl
      have hg1 : q.g = (now k).1 := congrArg Prod.fst hgl
      have hl1 : q.l = (now k).2 := congrArg Prod.snd hgl
      rw [hno] at d0
      rw [hg1] at d1
      rw [hl1] at d2 dcl
      rw [Nat.zero_add] at d0 d1 d2
      clear hcs hq hno hgl hg1 hl1 hr hb1 hba HX KP HB
      generalize q.a = qa at *
      generalize q.c = qc at *
      generalize hnk : now k = nk at *
      obtain ⟨ng, nl⟩ := nk
      have KS := Lib.hid (refSame_any (k : Int) ng a nl c1 (k : Int) ng qa nl qc (w1.alloc (.cells #[.int .i64 (k : Int), .int .i64 ng, .slice a nl.length c1] 36)).drew hs1 CL1.out dcl)
      rw [pgSame_rfl] at KS
      clear CL1 dcl hnk hs1
      go_upto_region 5 with fail
      have hl := Lib.hid hlen
      clear hlen
      generalize hY : w1.alloc (.cells #[.int .i64 (k : Int), .int .i64 ng, .slice a nl.length c1] 36) = Y at *
      clear hY
      go_region_held3 (fun w' => w'.cell? ⟨w1.heap.size, 0, none⟩ = some (.int .i64 (k : Int)) ∧ w'.cell? ⟨w1.heap.size, 1, none⟩ = some (.int .i64 ng) ∧ w'.cell? ⟨w1.heap.size, 2, none⟩ = some (.slice a nl.length c1) ∧ w'.cell? ⟨R, k * 3, none⟩ = some (.int .i64 (k : Int)) ∧ w'.cell? ⟨R, k * 3 + 1, none⟩ = some (.int .i64 ng) ∧ w'.cell? ⟨R, k * 3 + 2, none⟩ = some (.slice qa nl.length qc))
        ((refine ⟨?_, ?_, ?_, ?_, ?_, ?_⟩ <;> (repeat (first | with_reducible assumption | with_reducible refine tw_drew ?_ | with_reducible refine Dv.keep_cell (by assumption) ?_))))
        (first | (go_at_call 20; refine KS.out.mono ?_; rintro x w6 ⟨rfl, hb6⟩))
      have B6 := Lib.hid (B1.out.trans (((Below.refl Y.heap.size Y).drew.trans hb6).mono B1.out.size))
      have hlen := hl.out
      clear hb6 KS B1 p0 p1 p2 d0 d1 d2 hl
      go_wp2
      go_roundw
      case rel => exact ⟨k + 1, by omega, by go_num, B6⟩
      case measure => simp [intOf]; omega
    · have hk1 : (np : Int) ≤ (k : Int) := by omega
      have KP1 := Lib.hid (fun W1 (hk : Tk w W1 D P L M n B T np now pm) => c_page_out hk (np : Int) (.inr (Int.le_refl _)))
      have KP2 := Lib.hid (fun W1 (hk : Tk w W1 D P L M n B T np now pm) => c_page_out hk (-1) (.inl (by omega)))
      have KG := Lib.hid (fun W1 (hk : Tk w W1 D P L M n B T np now pm) => c_pages hk)
      have hl := Lib.hid hlen
      clear hlen HP HN HS
      go_wp2_with fail
      refine (KP1.out _ (H.out.below HB.out)).mono ?_
      rintro x w1 ⟨rfl, hb1⟩
      have hba := (Below.refl w1.heap.size w1).alloc (Nat.le_refl _) (.cells #[.int .i64 0, .int .i64 0, .slice none 0 0] 36)
      have hB1 := HB.out.trans (hb1.mono HB.out.size)
      have B1 := Lib.hid (hB1.trans (hba.mono hB1.size))
      clear hb1 hba hB1 HB KP1
      go_upto_region 8 with fail
      generalize w1.alloc (.cells #[.int .i64 0, .int .i64 0, .slice none 0 0] 36) = Y1 at *
      go_wp2_with fail
      refine (KP2.out _ (H.out.below B1.out)).mono ?_
      rintro x w2 ⟨rfl, hb2⟩
      have hba := (Below.refl w2.heap.size w2).alloc (Nat.le_refl _) (.cells #[.int .i64 0, .int .i64 0, .slice none 0 0] 36)
      have hB2 := B1.out.trans (hb2.mono B1.out.size)
      have B2 := Lib.hid (hB2.trans (hba.mono hB2.size))
      clear hb2 hba hB2 B1 KP2
      go_upto_region 9 with fail
      generalize w2.alloc (.cells #[.int .i64 0, .int .i64 0, .slice none 0 0] 36) = Y2 at *
      go_wp2_with fail
      refine (KG.out _ (H.out.below B2.out)).mono ?_
      rintro x w3 ⟨rfl, rfl⟩
      clear KG H
      go_wp2
      go_ret
      exact ⟨rfl, B2.out⟩
end
end Go.Proofs.YtcdnkmjjedbbpaaGreatDoor
