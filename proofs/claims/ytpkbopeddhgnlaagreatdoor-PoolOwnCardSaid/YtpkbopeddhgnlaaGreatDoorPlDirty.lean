/-
  THE CONTRACTS OF pool's Dirty, dirtyNumbers.
-/
import Derived.Test.YtpkbopeddhgnlaaGreatDoorPlChange
namespace Go.Proofs.YtpkbopeddhgnlaaGreatDoor
open Go.RowKit
def dC (q : Int × Int) : List Value := [.int .i64 q.1, .int .i64 q.2]
def dsC (l : List (Int × Int)) : List Value := l.flatMap dC
theorem dsC_len : ∀ l : List (Int × Int), (dsC l).length = l.length * 2
  | [] => rfl
  | c :: l => by
    have := dsC_len l
    unfold dsC at this ⊢
    rw [List.flatMap_cons, List.length_append, this]
    show 2 + l.length * 2 = (l.length + 1) * 2
    omega
theorem dsC_append (a b : List (Int × Int)) : dsC (a ++ b) = dsC a ++ dsC b := by unfold dsC; rw [List.flatMap_append]
def noD : Int × Int := (0, 0)
theorem dsC_get : ∀ (l : List (Int × Int)) (i : Nat), i < l.length → (dsC l)[i * 2]? = some (.int .i64 (l.getD i noD).1) ∧ (dsC l)[i * 2 + 1]? = some (.int .i64 (l.getD i noD).2)
  | c :: l, 0, _ => ⟨rfl, rfl⟩
  | c :: l, i + 1, h => by
    have ih := dsC_get l i (by simpa using h)
    have e : dsC (c :: l) = .int .i64 c.1 :: .int .i64 c.2 :: dsC l := rfl
    have e2 : (i + 1) * 2 = i * 2 + 1 + 1 := by omega
    rw [e, e2, List.getElem?_cons_succ, List.getElem?_cons_succ, List.getElem?_cons_succ, List.getElem?_cons_succ]
    exact ih
/-- A row of dirty pages. -/
def RowD (W : World) (B : Nat) (v : Value) (l : List (Int × Int)) : Prop := W.ownsRow B 86 2 v l.length (dsC l)
/-- Dirty pages at a slice. -/
def DAt (W : World) (a : Option Addr) (l : List (Int × Int)) : Prop := l = [] ∨ ∃ b off, a = some ⟨b, off, none⟩ ∧ ∀ i, i < l.length → W.cell? ⟨b, off + i * 2, none⟩ = some (.int .i64 (l.getD i noD).1) ∧ W.cell? ⟨b, off + i * 2 + 1, none⟩ = some (.int .i64 (l.getD i noD).2)
theorem DAt.below {W X : World} {a : Option Addr} {l : List (Int × Int)} (h : DAt W a l) (hb : Below W.heap.size W X) : DAt X a l := by
  rcases h with h | ⟨b, off, e, h⟩
  · exact .inl h
  · exact .inr ⟨b, off, e, fun i hi => ⟨Dv.keep_cell hb (h i hi).1, Dv.keep_cell hb (h i hi).2⟩⟩
theorem RowD.at {W : World} {B : Nat} {v : Value} {l : List (Int × Int)} (h : RowD W B v l) : ∃ a c, v = .slice a l.length c ∧ DAt W a l := by
  rcases h.2 with ⟨hv, h0⟩ | ⟨g, c, cur, hv, _⟩
  · exact ⟨none, 0, by rw [hv, h0], .inl (List.length_eq_zero_iff.1 h0)⟩
  · subst hv
    refine ⟨_, c, rfl, .inr ⟨g, 0, rfl, fun i hi => ?_⟩⟩
    obtain ⟨h1, h2⟩ := dsC_get l i hi
    rw [Nat.zero_add, World.ownsRow.cellAt h (i * 2) (by omega), World.ownsRow.cellAt h (i * 2 + 1) (by omega)]
    exact ⟨h1, h2⟩
theorem RowD.base {W : World} {B C : Nat} {v : Value} {l : List (Int × Int)} (h : RowD W B v l) (hC : C ≤ B) : RowD W C v l := by
  obtain ⟨h1, h2⟩ := h
  refine ⟨h1, ?_⟩
  rcases h2 with h2 | ⟨g, cap, cur, hv, hg, r⟩
  · exact .inl h2
  · exact .inr ⟨g, cap, cur, hv, Nat.le_trans hC hg, r⟩
theorem infoD : (Tryz.prog.info? 86).map (fun i => (i.zero, i.size, i.bytes)) = some (some (.agg #[.int .i64 0, .int .i64 0]), 2, 16) := by kernel_rfl
theorem dC_one : ∀ q : Int × Int, ∀ u ∈ dC q, u.oneCell' = true := by
  intro q u hu
  unfold dC at hu
  simp at hu
  rcases hu with rfl | rfl <;> rfl
/-- append of one that was made for it. -/
theorem append_d {W : World} {ops : Array Oper} {rest : List Oper} {o : Oper} {a : Act} {Q : Exit → Act → World → Prop} (hgd : o.guard = none) (s x : Operand)
    (ho : o.op = .call { callee := .builtin .append, args := #[s, x], argTypes := #[52, 52] })
    (w : World) (v : Value) (l : List (Int × Int)) (q : Int × Int) (hs : a.eval s = v) (hown : RowD W w.heap.size v l) (hbr : Below w.heap.size w W) (hx : a.eval x = .slice (some ⟨W.heap.size, 0, none⟩) 1 1) (h10 : l.length ≤ 1000)
    (h : ∀ v' w2, RowD w2 w.heap.size v' (l ++ [q]) → Below w.heap.size w w2 → wpList Tryz.prog ops Q rest (a.put o.dst v') w2) :
    wpList Tryz.prog ops Q (o :: rest) a (W.alloc (.cells #[.int .i64 q.1, .int .i64 q.2] 86)) := by
  obtain ⟨i0, hi, hzz⟩ := Option.map_eq_some_iff.1 infoD
  simp only [Prod.mk.injEq] at hzz
  obtain ⟨hz0, hz1, hz2⟩ := hzz
  have hba : Below W.heap.size W (W.alloc (.cells #[.int .i64 q.1, .int .i64 q.2] 86)) := (Below.refl _ _).alloc (Nat.le_refl _) _
  have hsz : w.heap.size ≤ (W.alloc (.cells #[.int .i64 q.1, .int .i64 q.2] 86)).heap.size := Nat.le_trans hbr.size hba.size
  have hown2 : RowD (W.alloc (.cells #[.int .i64 q.1, .int .i64 q.2] 86)) w.heap.size v l := World.ownsRow.kept hown (row := none) ⟨hba.os, hba.tape, hba.output, hba.size, fun k hk _ => hba.block k hk⟩ (by cases v.ownBlock with
    | none => exact .inl rfl
    | some k => exact .inr (fun e => by cases e))
  refine wpList_append_own_at _ hgd s x 52 ho w.heap.size 86 i0 _ 2 16 Tryz.underlying52 hi hz0 hz1 hz2 rfl (by decide) v l.length (dsC l) hs hown2 ⟨W.heap.size, 0, none⟩ 1 1 (dC q) hx rfl (fun j u hj => ?_) (dC_one q) (by unfold maxLen; omega) (by omega) hsz (fun v' w' h1 h2 _ _ => h v' w' ?_ ?_)
  · have ea : (⟨W.heap.size, 0, none⟩ : Addr).add j = ⟨W.heap.size, 0 + j, none⟩ := by unfold Addr.add; split <;> simp_all
    rw [ea, Nat.zero_add]
    match j, hj with
    | 0, hj => rw [← hj]; exact Dv.new_cell rfl rfl
    | 1, hj => rw [← hj]; exact Dv.new_cell rfl rfl
  · unfold RowD
    rw [List.length_append, dsC_append]
    have : dsC [q] = dC q := by unfold dsC; simp
    rw [this]; exact h1
  · exact (hbr.alloc hbr.size _).grown h2 hsz (fun k hk => (World.ownsRow.lt hown2 k hk).1)
theorem infoZ : (Tryz.prog.info? 3).map (fun i => (i.zero, i.size, i.bytes)) = some (some (.int .i64 0), 1, 8) := by kernel_rfl
/-- append of one number. -/
theorem append_i {W : World} {ops : Array Oper} {rest : List Oper} {o : Oper} {a : Act} {Q : Exit → Act → World → Prop} (hgd : o.guard = none) (s x : Operand)
    (ho : o.op = .call { callee := .builtin .append, args := #[s, x], argTypes := #[54, 54] })
    (w : World) (v : Value) (l : List Int) (q : Int) (hs : a.eval s = v) (hown : W.ownsRow w.heap.size 3 1 v l.length (l.map encZ)) (hbr : Below w.heap.size w W) (hx : a.eval x = .slice (some ⟨W.heap.size, 0, none⟩) 1 1) (h10 : l.length ≤ 1000)
    (h : ∀ v' w2, w2.ownsRow w.heap.size 3 1 v' (l ++ [q]).length ((l ++ [q]).map encZ) → Below w.heap.size w w2 → wpList Tryz.prog ops Q rest (a.put o.dst v') w2) :
    wpList Tryz.prog ops Q (o :: rest) a (W.alloc (.cells #[.int .i64 q] 3)) := by
  obtain ⟨i0, hi, hzz⟩ := Option.map_eq_some_iff.1 infoZ
  simp only [Prod.mk.injEq] at hzz
  obtain ⟨hz0, hz1, hz2⟩ := hzz
  have hba : Below W.heap.size W (W.alloc (.cells #[.int .i64 q] 3)) := (Below.refl _ _).alloc (Nat.le_refl _) _
  have hsz : w.heap.size ≤ (W.alloc (.cells #[.int .i64 q] 3)).heap.size := Nat.le_trans hbr.size hba.size
  have hown2 : (W.alloc (.cells #[.int .i64 q] 3)).ownsRow w.heap.size 3 1 v l.length (l.map encZ) := World.ownsRow.kept hown (row := none) ⟨hba.os, hba.tape, hba.output, hba.size, fun k hk _ => hba.block k hk⟩ (by cases v.ownBlock with
    | none => exact .inl rfl
    | some k => exact .inr (fun e => by cases e))
  refine wpList_append_own_at _ hgd s x 54 ho w.heap.size 3 i0 _ 1 8 Tryz.underlying54 hi hz0 hz1 hz2 rfl (by decide) v l.length (l.map encZ) hs hown2 ⟨W.heap.size, 0, none⟩ 1 1 [.int .i64 q] hx rfl (fun j u hj => ?_) (fun u hu => by simp at hu; subst hu; rfl) (by unfold maxLen; omega) (by omega) hsz (fun v' w' h1 h2 _ _ => h v' w' ?_ ?_)
  · have ea : (⟨W.heap.size, 0, none⟩ : Addr).add j = ⟨W.heap.size, 0 + j, none⟩ := by unfold Addr.add; split <;> simp_all
    rw [ea, Nat.zero_add]
    match j, hj with
    | 0, hj => rw [← hj]; exact Dv.new_cell rfl rfl
  · rw [List.length_append, List.map_append]; exact h1
  · exact (hbr.alloc hbr.size _).grown h2 hsz (fun k hk => (World.ownsRow.lt hown2 k hk).1)
section
variable {w W X : World} {D P L M n B T np Q room MF k : Nat} {now : Nat → Pg} {o : Int → Option Nat} {fv : Int → FrD}
/-- The dirty pages of a list. -/
def dirtyOf (fv : Int → FrD) (ks : List Int) : List (Int × Int) := (ks.filter fun i => decide (0 < (fv i).first)).map fun i => (i, (fv i).first)
theorem dirtyOf_take (fv : Int → FrD) (ks : List Int) (j : Nat) (hj : j < ks.length) : dirtyOf fv (ks.take (j + 1)) = dirtyOf fv (ks.take j) ++ (if 0 < (fv (ks.getD j 0)).first then [(ks.getD j 0, (fv (ks.getD j 0)).first)] else []) := by
  have : ks.take (j + 1) = ks.take j ++ [ks.getD j 0] := by rw [List.take_succ_eq_append_getElem hj]; simp [List.getD_eq_getElem?_getD, hj]
  rw [this]
  unfold dirtyOf
  rw [List.filter_append, List.map_append]
  congr 1
  by_cases h : 0 < (fv (ks.getD j 0)).first
  · rw [if_pos h, List.filter_cons_of_pos (by simpa using h)]; rfl
  · rw [if_neg h, List.filter_cons_of_neg (by simpa using h)]; rfl
theorem dirtyOf_len (fv : Int → FrD) (ks : List Int) : (dirtyOf fv ks).length ≤ ks.length := by unfold dirtyOf; rw [List.length_map]; exact List.length_filter_le _ _
set_option maxRecDepth 100000 in
set_option maxHeartbeats 2000000 in
theorem dirtyL_any (h : PlS w W D P L M n B T np now Q room MF k o fv) {ks : List Int} (hk : KeysOf o ks) (hwf : ∀ i ∈ ks, (Lit.int .i64 i).wf = true) :
    Calls Tryz.prog 19 #[.pointer (some ⟨Q, 0, none⟩)] W fun x w' => ∃ v, x = .returned v ∧ RowD w' W.heap.size v (dirtyOf fv ks) ∧ Below W.heap.size W w' := by
  have KH := Lib.hid (held_any h hk)
  have few := hk.few
  have HK := Lib.hid hk
  have HH := Lib.hid h
  have HWF := Lib.hid hwf
  clear h hk hwf
  go_enter Tryz.func19, Tryz.ntmps19
  go_wp2_with fail
  refine KH.out.mono ?_
  rintro x w1 ⟨a, c, rfl, hrow, _, hb1⟩
  have HR := Lib.hid hrow
  have HB1 := Lib.hid hb1
  clear hrow KH
  go_wp2
  go_loopw [3, 10] (fun v i wr => ∃ j : Nat, j ≤ ks.length ∧ i = .int .i64 j ∧ RowD wr w1.heap.size v (dirtyOf fv (ks.take j)) ∧ Below w1.heap.size w1 wr) (fun _ i _ => ks.length - (intOf i).toNat)
  case atStart => exact ⟨0, Nat.zero_le _, rfl, World.ownsRow_nil _ _ _ _, Below.refl _ _⟩
  case round =>
    obtain ⟨j, hj, rfl, hown, hb1r⟩ := hrel
    rename World => wr
    have hbr := HB1.out.trans (hb1r.mono HB1.out.size)
    by_cases hlt : j < ks.length
    · rcases HR.out.below hb1r with hnil | ⟨b, off, rfl, hcs⟩
      · rw [hnil] at hlt; exact absurd hlt (Nat.not_lt_zero _)
      have hc := hcs j hlt
      have hT := dirtyOf_take fv ks j hlt
      have hol := dirtyOf_len fv (ks.take j)
      rw [List.length_take] at hol
      obtain ⟨x, hx⟩ : ∃ x, x = ks.getD j 0 := ⟨_, rfl⟩
      have hmem : x ∈ ks := by rw [hx, List.getD_eq_getElem?_getD, List.getElem?_eq_getElem hlt]; exact List.getElem_mem hlt
      rw [← hx] at hc hT
      obtain ⟨F, hF⟩ : ∃ F, o x = some F := Option.isSome_iff_exists.1 ((HK.out.mem x).1 hmem)
      have hP := HH.out.below hbr
      have lk := hP.mp.look x (HWF.out x hmem)
      rw [hF] at lk
      rw [show frV (some F) = Value.pointer (some ⟨F, 0, none⟩) from rfl] at lk
      have q2 := hP.q2
      have KD := Lib.hid (dirty_any hP hF)
      have f0 := (hP.fr x F hF).f0
      obtain ⟨O, hO⟩ : ∃ O, O = dirtyOf fv (ks.take j) := ⟨_, rfl⟩
      rw [← hO] at hT hown hol
      have hol2 : O.length ≤ 1000 := by omega
      have hlt' : (j : Int) < (ks.length : Int) := by omega
      clear hcs hx hmem hF hP hO hol
      obtain ⟨z, hz⟩ : ∃ z, z = (fv x).first := ⟨_, rfl⟩
      rw [← hz] at hT KD f0
      clear hz
      by_cases h0 : 0 < z
      · rw [if_pos h0] at hT
        rw [show decide (0 < z) = true by simpa using h0] at KD
        have HT := Lib.hid hT
        clear hT h0
        go_wp2_with fail
        refine KD.out.mono ?_
        rintro e w5 ⟨rfl, rfl⟩
        go_wp2_with (at_builtin; have h00 := hown; have h01 := hb1r; have h02 := hol2; refine append_d (by rfl) _ _ (by rfl) w1 _ O (x, z) (by rfl) h00 h01 (by rfl) h02 ?_)
        intro v' w6 ho6 hb6
        have HO6 := Lib.hid ho6
        clear ho6 hown hol2
        go_wp2
        go_roundw
        case rel => exact ⟨j + 1, by omega, by go_num, by rw [HT.out]; exact HO6.out, hb6⟩
        case measure => simp [intOf]; omega
      · rw [if_neg h0, List.append_nil] at hT
        rw [show decide (0 < z) = false by simpa using h0] at KD
        have HT := Lib.hid hT
        have HO := Lib.hid hown
        clear hT h0 hown
        go_wp2_with fail
        refine KD.out.mono ?_
        rintro e w5 ⟨rfl, rfl⟩
        go_wp2
        go_roundw
        case rel => exact ⟨j + 1, by omega, by go_num, by rw [HT.out]; exact HO.out, hb1r⟩
        case measure => simp [intOf]; omega
    · have hj1 : (ks.length : Int) ≤ (j : Int) := by omega
      have hfull : ks.take j = ks := List.take_of_length_le (by omega)
      rw [hfull] at hown
      have HO := Lib.hid hown
      clear hown hfull
      go_wp2
      go_ret
      exact ⟨_, rfl, HO.out.base HB1.out.size, hbr⟩
theorem ibase {W : World} {B C : Nat} {v : Value} {n : Nat} {xs : List Value} (h : W.ownsRow B 3 1 v n xs) (hC : C ≤ B) : W.ownsRow C 3 1 v n xs := by
  obtain ⟨h1, h2⟩ := h
  refine ⟨h1, ?_⟩
  rcases h2 with h2 | ⟨g, cap, cur, hv, hg, r⟩
  · exact .inl h2
  · exact .inr ⟨g, cap, cur, hv, Nat.le_trans hC hg, r⟩
def dirtyNo (fv : Int → FrD) (ks : List Int) : List Int := (dirtyOf fv ks).map (·.1)
set_option maxRecDepth 100000 in
set_option maxHeartbeats 2000000 in
theorem nums_any (h : PlS w W D P L M n B T np now Q room MF k o fv) {ks : List Int} (hk : KeysOf o ks) (hwf : ∀ i ∈ ks, (Lit.int .i64 i).wf = true) :
    Calls Tryz.prog 39 #[.pointer (some ⟨Q, 0, none⟩)] W fun x w' => ∃ a c, x = .returned (.slice a (dirtyNo fv ks).length c) ∧ IRow w' a (dirtyNo fv ks) ∧ (∀ b off, a = some ⟨b, off, none⟩ → W.heap.size ≤ b) ∧ Below W.heap.size W w' := by
  have KD := Lib.hid (dirtyL_any h hk hwf)
  have hdl := dirtyOf_len fv ks
  have few := hk.few
  clear h hk hwf
  unfold dirtyNo
  obtain ⟨dl, hdle⟩ : ∃ dl, dl = dirtyOf fv ks := ⟨_, rfl⟩
  rw [← hdle] at KD hdl ⊢
  clear hdle
  go_enter Tryz.func39, Tryz.ntmps39
  go_wp2_with fail
  refine KD.out.mono ?_
  rintro x w1 ⟨v, rfl, hrow, hb1⟩
  obtain ⟨a, c, rfl, hat⟩ := hrow.at
  have HA := Lib.hid hat
  have HB1 := Lib.hid hb1
  clear hrow hat KD
  go_wp2
  go_loopw [3, 9] (fun v i wr => ∃ j : Nat, j ≤ dl.length ∧ i = .int .i64 j ∧ wr.ownsRow w1.heap.size 3 1 v ((dl.take j).map (·.1)).length (((dl.take j).map (·.1)).map encZ) ∧ Below w1.heap.size w1 wr) (fun _ i _ => dl.length - (intOf i).toNat)
  case atStart => exact ⟨0, Nat.zero_le _, rfl, World.ownsRow_nil _ _ _ _, Below.refl _ _⟩
  case round =>
    obtain ⟨j, hj, rfl, hown, hbr⟩ := hrel
    rename World => wr
    by_cases hlt : j < dl.length
    · rcases HA.out.below hbr with hnil | ⟨b, off, rfl, hcs⟩
      · rw [hnil] at hlt; exact absurd hlt (Nat.not_lt_zero _)
      obtain ⟨c0, c1⟩ := hcs j hlt
      have hT : (dl.take (j + 1)).map (·.1) = (dl.take j).map (·.1) ++ [(dl.getD j noD).1] := by
        rw [List.take_succ_eq_append_getElem hlt, List.map_append]; simp [List.getD_eq_getElem?_getD, hlt]
      have hol : ((dl.take j).map (·.1)).length ≤ 1000 := by rw [List.length_map, List.length_take]; omega
      obtain ⟨q, hq⟩ : ∃ q, q = dl.getD j noD := ⟨_, rfl⟩
      rw [← hq] at c0 c1 hT
      obtain ⟨x, z⟩ := q
      dsimp only at c0 c1 hT
      obtain ⟨O, hO⟩ : ∃ O, O = (dl.take j).map (·.1) := ⟨_, rfl⟩
      rw [← hO] at hT hown hol
      have HT := Lib.hid hT
      have hlt' : (j : Int) < (dl.length : Int) := by omega
      have hba := (Below.refl wr.heap.size wr).alloc (Nat.le_refl _) (.cells #[.int .i64 x, .int .i64 z] 86)
      have hbr2 := hbr.alloc hbr.size (.cells #[.int .i64 x, .int .i64 z] 86)
      have hown2 : (wr.alloc (.cells #[.int .i64 x, .int .i64 z] 86)).ownsRow w1.heap.size 3 1 _ O.length (O.map encZ) := World.ownsRow.kept hown (row := none) ⟨hba.os, hba.tape, hba.output, hba.size, fun k hk _ => hba.block k hk⟩ (by
        generalize Value.ownBlock _ = ob
        cases ob with
        | none => exact .inl rfl
        | some k => exact .inr (fun e => by cases e))
      have p0 : (wr.alloc (.cells #[.int .i64 x, .int .i64 z] 86)).cell? ⟨wr.heap.size, 0, none⟩ = some (.int .i64 x) := Dv.new_cell rfl rfl
      clear hcs hq hO hT hown hba
      go_upto_region 5 with fail
      generalize wr.alloc (.cells #[.int .i64 x, .int .i64 z] 86) = Y at *
      go_wp2_with (at_builtin; have h00 := hown2; have h01 := hbr2; have h02 := hol; refine append_i (by rfl) _ _ (by rfl) w1 _ O x (by rfl) h00 h01 (by rfl) h02 ?_)
      intro v' w6 ho6 hb6
      have HO6 := Lib.hid ho6
      clear ho6 hown2 hol
      go_wp2
      go_roundw
      case rel => exact ⟨j + 1, by omega, by go_num, by rw [HT.out, List.length_append, List.map_append]; exact HO6.out, hb6⟩
      case measure => simp [intOf]; omega
    · have hj1 : (dl.length : Int) ≤ (j : Int) := by omega
      have hfull : dl.take j = dl := List.take_of_length_le (by omega)
      rw [hfull] at hown
      obtain ⟨a9, c9, rfl, h9, h10⟩ := irow_of_owns (ibase hown HB1.out.size)
      have H9 := Lib.hid h9
      have H10 := Lib.hid h10
      clear hown hfull h9 h10
      go_wp2
      go_ret
      exact ⟨_, _, rfl, H9.out, H10.out, HB1.out.trans (hbr.mono HB1.out.size)⟩
end
end Go.Proofs.YtpkbopeddhgnlaaGreatDoor
