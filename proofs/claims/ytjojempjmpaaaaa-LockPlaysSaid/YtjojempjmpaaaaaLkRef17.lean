/-
  ref14: Leave.
-/
import Derived.Test.YtjojempjmpaaaaaLkRef16
import Derived.Test.YtjojempjmpaaaaaLkRef12
import Derived.Test.YtjojempjmpaaaaaLkActs
import Derived.StillTailTactics
namespace Go.Proofs.Ytjojempjmpaaaaa
open Go.RowKit
def sliceLen : Value → Nat
  | .slice _ n _ => n
  | _ => 0
/-- append of a claim, as a step of a region that draws. -/
theorem step_append_w {ops : Array Oper} {o : Oper} {a : Act} {w : World} {K : Act → World → Prop} {Q : Exit → Act → World → Prop} {E : Prop}
    (hg : o.guard = none) (s x : Operand) (hop : o.op = Op.call { callee := Callee.builtin Builtin.append, args := #[s, x], argTypes := #[27, 27] })
    (B : Nat) (v : Value) (l : List Wc) (ad : Addr) (y : Wc) (c : Nat) (hs : a.eval s = v) (hown : RowW w B v l) (hx : a.eval x = .slice (some ad) 1 c) (hc : w.cell? (ad.add 0) = some (.int .i64 y.ow)) (hc1 : w.cell? (ad.add 1) = some (.string y.k)) (hc2 : w.cell? (ad.add 2) = some (.bool y.wr)) (h10 : l.length ≤ 1000000) (hB : B ≤ w.heap.size)
    (hK : ∀ v' w', RowW w' B v' (l ++ [y]) → w.grownBy w' v.ownBlock → (v'.ownBlock = v.ownBlock ∨ v'.ownBlock = some w.heap.size) → K (a.put o.dst v') w') :
    if Region.wanted o (yielded ops a.tmps) = true then Oper.wp Try.prog o a w K Q else E := by
  have hw : Region.wanted o (yielded ops a.tmps) = true := by simp [Region.wanted, hg]
  rw [if_pos hw]
  obtain ⟨i0, hi, hzz⟩ := Option.map_eq_some_iff.1 infoW
  simp only [Prod.mk.injEq] at hzz
  obtain ⟨hz0, hz1, hz2⟩ := hzz
  obtain ⟨v', w', hrun, r1, r2, _, r4⟩ := run_append_own_at (P := Try.prog) w B 27 o.type 67 i0 _ 3 32 Try.underlying27 hi hz0 hz1 hz2 rfl (by decide) v l.length (flatW l) hown ad 1 c [.int .i64 y.ow, .string y.k, .bool y.wr] rfl (by
    intro j u' hj
    match j, hj with
    | 0, hj => simp at hj; subst hj; exact hc
    | 1, hj => simp at hj; subst hj; exact hc1
    | 2, hj => simp at hj; subst hj; exact hc2) (by intro u' hu; simp at hu; rcases hu with rfl | rfl | rfl <;> rfl) (by unfold maxLen; omega) (by omega) hB
  unfold Oper.wp
  simp [execOp, hop, resolve, invoke, builtin, hs, hx, hrun, Result.andThen]
  refine hK v' w' ?_ r2 r4
  unfold RowW
  rw [List.length_append, flatW_append]; exact r1
/-- Who stays. -/
def offH (all : Bool) (os : List Int) (l : List Wc) : List Wc := if all = true then offR os l else l
theorem offR_snoc (os : List Int) (l : List Wc) (x : Wc) : offR os (l ++ [x]) = offR os l ++ if x.ow ∈ os then [] else [x] := by
  unfold offR
  rw [List.filter_append]
  congr 1
  by_cases e : x.ow ∈ os
  · rw [if_pos e, List.filter_cons_of_neg (by simp [e])]; rfl
  · rw [if_neg e, List.filter_cons_of_pos (by simp [e])]; rfl
theorem offH_snoc (all : Bool) (os : List Int) (l : List Wc) (x : Wc) : offH all os (l ++ [x]) = offH all os l ++ if all = true ∧ x.ow ∈ os then [] else [x] := by
  unfold offH
  cases all with
  | true => simp only [if_true, true_and]; exact offR_snoc os l x
  | false => simp
theorem offH_len (all : Bool) (os : List Int) (l : List Wc) : (offH all os l).length ≤ l.length := by
  unfold offH
  split
  · exact offR_len l
  · exact Nat.le_refl _
/-- What Leave answers. -/
def LeP (W : World) (h l : List Wc) (os : List Int) (all : Bool) (e : Ending) (W' : World) : Prop :=
  ∃ (vh vl vo : Value) (H' L' : List Wc) (out : List Int), e = .returned (.tuple #[.agg #[vh, vl], vo]) ∧ RowW W' W.heap.size vh H' ∧ RowW W' W.heap.size vl L' ∧ RowI W' W.heap.size vo out ∧ PassR (offH all os h) (offR os l) H' L' out ∧ Below W.heap.size W W'
section
variable {W : World}
set_option maxRecDepth 100000 in
set_option maxHeartbeats 16000000 in
theorem leave14_any (aH : Option Addr) (h : List Wc) (cH : Nat) (aL : Option Addr) (l : List Wc) (cL : Nat) (ao : Option Addr) (os : List Int) (co : Nat) (all : Bool) (hl : h.length + l.length ≤ 10000) (ho : os.length ≤ 10000) (hm : WcsAt W aH h) (hn : WcsAt W aL l) (hos : IntsAt W ao os) :
    Calls Try.prog 22 #[tabV aH h cH aL l cL, .slice ao os.length co, .bool all] W (LeP W h l os all) := by
  have hlv := lv_new W (.slice aH h.length cH) (.slice aL l.length cL)
  have hb0 : Below W.heap.size W (((W.alloc (.cells #[.slice aH h.length cH, .slice aL l.length cL] 29)).alloc (.cells #[.slice none 0 0, .slice none 0 0] 29)).alloc (.cells #[.slice none 0 0, .slice none 0 0] 29)) := (((Below.refl _ _).alloc (Nat.le_refl _) _).alloc (by rw [World.size_alloc]; omega) _).alloc (by rw [World.size_alloc, World.size_alloc]; omega) _
  have HLH : Hid (∀ X, Below W.heap.size W X → WcsAt X aH h ∧ WcsAt X aL l ∧ IntsAt X ao os) := fun X hX => ⟨hm.below hX, hn.below hX, hos.below hX⟩
  have HB := Lib.hid hb0
  have hli : (h.length : Int) ≤ 10000 := by omega
  have hli2 : (l.length : Int) ≤ 10000 := by omega
  have HLEN : Hid (h.length + l.length ≤ 10000) := hl
  clear hm hn hos hb0 hl
  unfold tabV
  go_enter Try.func22, Try.ntmps22
  go_upto_region 2 with fail
  generalize (((W.alloc (.cells #[.slice aH h.length cH, .slice aL l.length cL] 29)).alloc (.cells #[.slice none 0 0, .slice none 0 0] 29)).alloc (.cells #[.slice none 0 0, .slice none 0 0] 29)) = Y at *
  have S0 : Hid (LS Y Y W.heap.size (.slice aH h.length cH) (.slice aL l.length cL) (.slice none 0 0) (.slice none 0 0) (offH all os (h.take 0)) []) := by
    have e : offH all os (h.take 0) = [] := by rw [List.take_zero]; unfold offH; split <;> rfl
    show LS Y Y _ _ _ _ _ _ _
    rw [e]
    exact ⟨hlv, hlv.sz, World.ownsRow_nil _ _ _ _, World.ownsRow_nil _ _ _ _, fun _ e => (by cases e), Below.refl _ _⟩
  clear hlv
  go_wp2
  go_loopw [9] (fun i wr => ∃ (j : Nat) (wh : Value), i = .int .i64 (j : Int) ∧ j ≤ h.length ∧ Hid (LS Y wr W.heap.size (.slice aH h.length cH) (.slice aL l.length cL) wh (.slice none 0 0) (offH all os (h.take j)) [])) (fun i _ => h.length - (intOf i).toNat)
  case atStart => exact ⟨0, _, rfl, Nat.zero_le _, S0⟩
  case round =>
    obtain ⟨j, wh, rfl, hj, st⟩ := hrel
    rename World => wr
    clear S0
    have HBW := Lib.hid (HB.out.trans st.out.bw)
    obtain ⟨hA, hD, hO⟩ := HLH.out wr HBW.out
    have t0 := st.out.lv.t0
    by_cases hlt : j < h.length
    · obtain ⟨ba, oa, rfl, k0, k1, k2⟩ := hA.cell hlt
      have HLT := Lib.hid hlt
      have htk : h.take (j + 1) = h.take j ++ [h[j]] := List.take_succ_eq_append_getElem hlt
      have HES : Hid (offH all os (h.take (j + 1)) = offH all os (h.take j) ++ if all = true ∧ h[j].ow ∈ os then [] else [h[j]]) := by
        show offH all os (h.take (j + 1)) = _
        rw [htk, offH_snoc]
      have HLN : Hid ((offH all os (h.take j)).length ≤ 100000) := by
        have h1 := offH_len all os (h.take j)
        rw [List.length_take] at h1
        have := HLEN.out
        show _ ≤ _
        omega
      have hji : (j : Int) < (h.length : Int) := by omega
      have hjn : (0 : Int) ≤ (j : Int) := Int.natCast_nonneg _
      have KH := Lib.hid (has14_any (W := wr) ao os co h[j].ow (by omega) hO)
      clear htk hA hD hO
      generalize h[j] = x at *
      obtain ⟨xk, xw, xo⟩ := x
      replace k0 : wr.cell? ⟨ba, oa + j * 3, none⟩ = some (.int .i64 xo) := k0
      replace k1 : wr.cell? ⟨ba, oa + j * 3 + 1, none⟩ = some (.string xk) := k1
      replace k2 : wr.cell? ⟨ba, oa + j * 3 + 2, none⟩ = some (.bool xw) := k2
      replace KH : Hid (Calls Try.prog 49 #[.slice ao os.length co, .int .i64 xo] wr fun e W' => e = .returned (.bool (decide (xo ∈ os))) ∧ wr = W') := KH
      replace HES : Hid (offH all os (h.take (j + 1)) = offH all os (h.take j) ++ if all = true ∧ xo ∈ os then [] else [⟨xk, xw, xo⟩]) := HES
      cases all with
      | false =>
        have HE : Hid (offH false os (h.take (j + 1)) = offH false os (h.take j) ++ [⟨xk, xw, xo⟩]) := HES.out.trans (by rw [if_neg (fun q => by cases q.1)])
        clear HES KH
        go_upto_region 6 with fail
        have hbd : Below wr.heap.size wr wr.drew := (Below.refl _ _).drew
        have hba : Below wr.heap.size wr (wr.alloc (.cells #[.int .i64 xo, .string xk, .bool xw] 67)).drew := ((Below.refl _ _).alloc (Nat.le_refl _) _).drew
        have SD := Lib.hid (st.out.below hbd)
        have SE := Lib.hid (st.out.below hba)
        have d0 := SD.out.lv.t0
        have d1 := SD.out.lv.n0
        have e0 := SE.out.lv.t0
        have e1 := SE.out.lv.n0
        have j0 := keep_cell hbd k0
        have j1 := keep_cell hbd k1
        have j2 := keep_cell hbd k2
        have i0 := keep_cell hba k0
        have i1 := keep_cell hba k1
        have i2 := keep_cell hba k2
        have m0 : (wr.alloc (.cells #[.int .i64 xo, .string xk, .bool xw] 67)).drew.cell? ((⟨wr.heap.size, 0, none⟩ : Addr).add 0) = some (.int .i64 xo) := (new_cell rfl rfl : (wr.alloc (.cells #[.int .i64 xo, .string xk, .bool xw] 67)).cell? ⟨wr.heap.size, 0, none⟩ = some (.int .i64 xo))
        have m1 : (wr.alloc (.cells #[.int .i64 xo, .string xk, .bool xw] 67)).drew.cell? ((⟨wr.heap.size, 0, none⟩ : Addr).add 1) = some (.string xk) := (new_cell rfl rfl : (wr.alloc (.cells #[.int .i64 xo, .string xk, .bool xw] 67)).cell? ⟨wr.heap.size, 1, none⟩ = some (.string xk))
        have m2 : (wr.alloc (.cells #[.int .i64 xo, .string xk, .bool xw] 67)).drew.cell? ((⟨wr.heap.size, 0, none⟩ : Addr).add 2) = some (.bool xw) := (new_cell rfl rfl : (wr.alloc (.cells #[.int .i64 xo, .string xk, .bool xw] 67)).cell? ⟨wr.heap.size, 2, none⟩ = some (.bool xw))
        have hlr : (offH false os (h.take j)).length ≤ 1000000 := by have := HLN.out; omega
        have hsB : Y.heap.size ≤ (wr.alloc (.cells #[.int .i64 xo, .string xk, .bool xw] 67)).drew.heap.size := by
          have h1 := SE.out.bw.size
          exact h1
        clear hbd hba
        go_region_law ((refine step_append_w (by rfl) _ _ (by rfl) Y.heap.size wh (offH false os (h.take j)) ⟨wr.heap.size, 0, none⟩ ⟨xk, xw, xo⟩ 1 (by rfl) SE.out.rh (by rfl) m0 m1 m2 hlr hsB ?_; intro v8 w8 hr8 hg8 ho8; have hr9 : RowW w8 Y.heap.size v8 (offH false os (h.take (j + 1))) := (by rw [HE.out]; exact hr8); obtain ⟨a', c', hv, -⟩ := hr9.form; have S8 := Lib.hid (SE.out.putH hr9 hg8 rfl); have hk8 := SE.out.lv.keep (bel_grown hg8 (M := W.heap.size + 1 + 1 + 1) (fun g e => Nat.le_trans SE.out.nY (World.ownsRow.lt SE.out.rh g e).1) SE.out.lv.sz); have p0 := hk8.n0; have pf := hk8.f2; generalize (offH false os (h.take (j + 1))).length = nv at hv; subst hv; clear hr8 hr9 hg8 ho8 hk8))
        all_goals clear SE SD d0 d1 e0 e1 j0 j1 j2 i0 i1 i2 m0 m1 m2 k0 k1 k2 st t0
        all_goals go_wp2
        all_goals
          go_roundw
          case rel => exact ⟨j + 1, _, by go_num, HLT.out, S8⟩
          case measure => simp [intOf]; have := HLT.out; omega
      | true =>
        by_cases hin : xo ∈ os
        · have HE : Hid (offH true os (h.take (j + 1)) = offH true os (h.take j)) := HES.out.trans (by rw [if_pos ⟨rfl, hin⟩, List.append_nil])
          have SN : Hid (LS Y wr W.heap.size (.slice (some ⟨ba, oa, none⟩) h.length cH) (.slice aL l.length cL) wh (.slice none 0 0) (offH true os (h.take (j + 1))) []) := by
            show LS _ _ _ _ _ _ _ _ _
            rw [HE.out]; exact st.out
          rw [decide_eq_true hin] at KH
          clear HES HE st
          go_wp2_with fail
          refine KH.out.mono ?_
          rintro e w ⟨rfl, rfl⟩
          clear KH k0 k1 k2 t0
          go_wp2
          go_roundw
          case rel => exact ⟨j + 1, _, by go_num, HLT.out, SN⟩
          case measure => simp [intOf]; have := HLT.out; omega
        · rw [decide_eq_false hin] at KH
          go_wp2_with fail
          refine KH.out.mono ?_
          rintro e w ⟨rfl, rfl⟩
          have HE : Hid (offH true os (h.take (j + 1)) = offH true os (h.take j) ++ [⟨xk, xw, xo⟩]) := HES.out.trans (by rw [if_neg (fun q => hin q.2)])
          clear HES KH
          go_upto_region 6 with fail
          have hbd : Below wr.heap.size wr wr.drew := (Below.refl _ _).drew
          have hba : Below wr.heap.size wr (wr.alloc (.cells #[.int .i64 xo, .string xk, .bool xw] 67)).drew := ((Below.refl _ _).alloc (Nat.le_refl _) _).drew
          have SD := Lib.hid (st.out.below hbd)
          have SE := Lib.hid (st.out.below hba)
          have d0 := SD.out.lv.t0
          have d1 := SD.out.lv.n0
          have e0 := SE.out.lv.t0
          have e1 := SE.out.lv.n0
          have j0 := keep_cell hbd k0
          have j1 := keep_cell hbd k1
          have j2 := keep_cell hbd k2
          have i0 := keep_cell hba k0
          have i1 := keep_cell hba k1
          have i2 := keep_cell hba k2
          have m0 : (wr.alloc (.cells #[.int .i64 xo, .string xk, .bool xw] 67)).drew.cell? ((⟨wr.heap.size, 0, none⟩ : Addr).add 0) = some (.int .i64 xo) := (new_cell rfl rfl : (wr.alloc (.cells #[.int .i64 xo, .string xk, .bool xw] 67)).cell? ⟨wr.heap.size, 0, none⟩ = some (.int .i64 xo))
          have m1 : (wr.alloc (.cells #[.int .i64 xo, .string xk, .bool xw] 67)).drew.cell? ((⟨wr.heap.size, 0, none⟩ : Addr).add 1) = some (.string xk) := (new_cell rfl rfl : (wr.alloc (.cells #[.int .i64 xo, .string xk, .bool xw] 67)).cell? ⟨wr.heap.size, 1, none⟩ = some (.string xk))
          have m2 : (wr.alloc (.cells #[.int .i64 xo, .string xk, .bool xw] 67)).drew.cell? ((⟨wr.heap.size, 0, none⟩ : Addr).add 2) = some (.bool xw) := (new_cell rfl rfl : (wr.alloc (.cells #[.int .i64 xo, .string xk, .bool xw] 67)).cell? ⟨wr.heap.size, 2, none⟩ = some (.bool xw))
          have hlr : (offH true os (h.take j)).length ≤ 1000000 := by have := HLN.out; omega
          have hsB : Y.heap.size ≤ (wr.alloc (.cells #[.int .i64 xo, .string xk, .bool xw] 67)).drew.heap.size := by
            have h1 := SE.out.bw.size
            exact h1
          clear hbd hba
          go_region_law ((refine step_append_w (by rfl) _ _ (by rfl) Y.heap.size wh (offH true os (h.take j)) ⟨wr.heap.size, 0, none⟩ ⟨xk, xw, xo⟩ 1 (by rfl) SE.out.rh (by rfl) m0 m1 m2 hlr hsB ?_; intro v8 w8 hr8 hg8 ho8; have hr9 : RowW w8 Y.heap.size v8 (offH true os (h.take (j + 1))) := (by rw [HE.out]; exact hr8); obtain ⟨a', c', hv, -⟩ := hr9.form; have S8 := Lib.hid (SE.out.putH hr9 hg8 rfl); have hk8 := SE.out.lv.keep (bel_grown hg8 (M := W.heap.size + 1 + 1 + 1) (fun g e => Nat.le_trans SE.out.nY (World.ownsRow.lt SE.out.rh g e).1) SE.out.lv.sz); have p0 := hk8.n0; have pf := hk8.f2; generalize (offH true os (h.take (j + 1))).length = nv at hv; subst hv; clear hr8 hr9 hg8 ho8 hk8))
          all_goals clear SE SD d0 d1 e0 e1 j0 j1 j2 i0 i1 i2 m0 m1 m2 k0 k1 k2 st t0
          all_goals go_wp2
          all_goals
            go_roundw
            case rel => exact ⟨j + 1, _, by go_num, HLT.out, S8⟩
            case measure => simp [intOf]; have := HLT.out; omega
    · obtain rfl : j = h.length := by omega
      have SA : Hid (LS Y wr W.heap.size (.slice aH h.length cH) (.slice aL l.length cL) wh (.slice none 0 0) (offH all os h) (offR os (l.take 0))) := by
        have h1 := st.out
        rw [List.take_length] at h1
        show LS _ _ _ _ _ _ _ _ _
        rw [List.take_zero]
        exact h1
      clear st
      go_wp2
      go_loopw [10] (fun i wx => ∃ (j : Nat) (wl : Value), i = .int .i64 (j : Int) ∧ j ≤ l.length ∧ Hid (LS Y wx W.heap.size (.slice aH h.length cH) (.slice aL l.length cL) wh wl (offH all os h) (offR os (l.take j)))) (fun i _ => l.length - (intOf i).toNat)
      case atStart => exact ⟨0, _, rfl, Nat.zero_le _, SA⟩
      case round =>
        obtain ⟨j, wl, rfl, hj, st⟩ := hrel
        rename World => wr
        clear SA t0
        have HBW := Lib.hid (HB.out.trans st.out.bw)
        obtain ⟨hA, hD, hO⟩ := HLH.out wr HBW.out
        have t0 := st.out.lv.t1
        by_cases hlt : j < l.length
        · obtain ⟨ba, oa, rfl, k0, k1, k2⟩ := hD.cell hlt
          have HLT := Lib.hid hlt
          have htk : l.take (j + 1) = l.take j ++ [l[j]] := List.take_succ_eq_append_getElem hlt
          have HES : Hid (offR os (l.take (j + 1)) = offR os (l.take j) ++ if l[j].ow ∈ os then [] else [l[j]]) := by
            show offR os (l.take (j + 1)) = _
            rw [htk, offR_snoc]
          have HLN : Hid ((offR os (l.take j)).length ≤ 100000) := by
            have h1 := offR_len (os := os) (l.take j)
            rw [List.length_take] at h1
            have := HLEN.out
            show _ ≤ _
            omega
          have hji : (j : Int) < (l.length : Int) := by omega
          have hjn : (0 : Int) ≤ (j : Int) := Int.natCast_nonneg _
          have KH := Lib.hid (has14_any (W := wr) ao os co l[j].ow (by omega) hO)
          clear htk hA hD hO
          generalize l[j] = x at *
          obtain ⟨xk, xw, xo⟩ := x
          replace k0 : wr.cell? ⟨ba, oa + j * 3, none⟩ = some (.int .i64 xo) := k0
          replace k1 : wr.cell? ⟨ba, oa + j * 3 + 1, none⟩ = some (.string xk) := k1
          replace k2 : wr.cell? ⟨ba, oa + j * 3 + 2, none⟩ = some (.bool xw) := k2
          replace KH : Hid (Calls Try.prog 49 #[.slice ao os.length co, .int .i64 xo] wr fun e W' => e = .returned (.bool (decide (xo ∈ os))) ∧ wr = W') := KH
          replace HES : Hid (offR os (l.take (j + 1)) = offR os (l.take j) ++ if xo ∈ os then [] else [⟨xk, xw, xo⟩]) := HES
          by_cases hin : xo ∈ os
          · have HE : Hid (offR os (l.take (j + 1)) = offR os (l.take j)) := HES.out.trans (by rw [if_pos hin, List.append_nil])
            have SN : Hid (LS Y wr W.heap.size (.slice aH h.length cH) (.slice (some ⟨ba, oa, none⟩) l.length cL) wh wl (offH all os h) (offR os (l.take (j + 1)))) := by
              show LS _ _ _ _ _ _ _ _ _
              rw [HE.out]; exact st.out
            rw [decide_eq_true hin] at KH
            clear HES HE st
            go_wp2_with fail
            refine KH.out.mono ?_
            rintro e w ⟨rfl, rfl⟩
            clear KH k0 k1 k2 t0
            go_wp2
            go_roundw
            case rel => exact ⟨j + 1, _, by go_num, HLT.out, SN⟩
            case measure => simp [intOf]; have := HLT.out; omega
          · rw [decide_eq_false hin] at KH
            go_wp2_with fail
            refine KH.out.mono ?_
            rintro e w ⟨rfl, rfl⟩
            clear KH
            have HE : Hid (offR os (l.take (j + 1)) = offR os (l.take j) ++ [⟨xk, xw, xo⟩]) := HES.out.trans (by rw [if_neg hin])
            clear HES
            go_upto_region 11 with fail
            have hbd : Below wr.heap.size wr wr.drew := (Below.refl _ _).drew
            have hba : Below wr.heap.size wr (wr.alloc (.cells #[.int .i64 xo, .string xk, .bool xw] 67)).drew := ((Below.refl _ _).alloc (Nat.le_refl _) _).drew
            have SD := Lib.hid (st.out.below hbd)
            have SE := Lib.hid (st.out.below hba)
            have d0 := SD.out.lv.t1
            have d1 := SD.out.lv.n1
            have e0 := SE.out.lv.t1
            have e1 := SE.out.lv.n1
            have j0 := keep_cell hbd k0
            have j1 := keep_cell hbd k1
            have j2 := keep_cell hbd k2
            have i0 := keep_cell hba k0
            have i1 := keep_cell hba k1
            have i2 := keep_cell hba k2
            have m0 : (wr.alloc (.cells #[.int .i64 xo, .string xk, .bool xw] 67)).drew.cell? ((⟨wr.heap.size, 0, none⟩ : Addr).add 0) = some (.int .i64 xo) := (new_cell rfl rfl : (wr.alloc (.cells #[.int .i64 xo, .string xk, .bool xw] 67)).cell? ⟨wr.heap.size, 0, none⟩ = some (.int .i64 xo))
            have m1 : (wr.alloc (.cells #[.int .i64 xo, .string xk, .bool xw] 67)).drew.cell? ((⟨wr.heap.size, 0, none⟩ : Addr).add 1) = some (.string xk) := (new_cell rfl rfl : (wr.alloc (.cells #[.int .i64 xo, .string xk, .bool xw] 67)).cell? ⟨wr.heap.size, 1, none⟩ = some (.string xk))
            have m2 : (wr.alloc (.cells #[.int .i64 xo, .string xk, .bool xw] 67)).drew.cell? ((⟨wr.heap.size, 0, none⟩ : Addr).add 2) = some (.bool xw) := (new_cell rfl rfl : (wr.alloc (.cells #[.int .i64 xo, .string xk, .bool xw] 67)).cell? ⟨wr.heap.size, 2, none⟩ = some (.bool xw))
            have hlr : (offR os (l.take j)).length ≤ 1000000 := by have := HLN.out; omega
            have hsB : Y.heap.size ≤ (wr.alloc (.cells #[.int .i64 xo, .string xk, .bool xw] 67)).drew.heap.size := by
              have h1 := SE.out.bw.size
              exact h1
            clear hbd hba
            go_region_law ((refine step_append_w (by rfl) _ _ (by rfl) Y.heap.size wl (offR os (l.take j)) ⟨wr.heap.size, 0, none⟩ ⟨xk, xw, xo⟩ 1 (by rfl) SE.out.rl (by rfl) m0 m1 m2 hlr hsB ?_; intro v8 w8 hr8 hg8 ho8; have hr9 : RowW w8 Y.heap.size v8 (offR os (l.take (j + 1))) := (by rw [HE.out]; exact hr8); obtain ⟨a', c', hv, -⟩ := hr9.form; have S8 := Lib.hid (SE.out.putL hr9 hg8 (ho8.imp id (fun e => ⟨_, e, Nat.le_refl _⟩))); have hk8 := SE.out.lv.keep (bel_grown hg8 (M := W.heap.size + 1 + 1 + 1) (fun g e => Nat.le_trans SE.out.nY (World.ownsRow.lt SE.out.rl g e).1) SE.out.lv.sz); have p0 := hk8.n1; have pf := hk8.f2; generalize (offR os (l.take (j + 1))).length = nv at hv; subst hv; clear hr8 hr9 hg8 ho8 hk8))
            all_goals clear SE SD d0 d1 e0 e1 j0 j1 j2 i0 i1 i2 m0 m1 m2 k0 k1 k2 st t0
            all_goals go_wp2
            all_goals
              go_roundw
              case rel => exact ⟨j + 1, _, by go_num, HLT.out, S8⟩
              case measure => simp [intOf]; have := HLT.out; omega
        · obtain rfl : j = l.length := by omega
          have SB : Hid (LS Y wr W.heap.size (.slice aH h.length cH) (.slice aL l.length cL) wh wl (offH all os h) (offR os l)) := by
            have h1 := st.out
            rw [List.take_length] at h1
            exact h1
          have HH0 : Hid ((offH all os h).length + (offR os l).length ≤ 10000) := by
            have h1 := offH_len all os h
            have h2 := offR_len (os := os) l
            have := HLEN.out
            show _ ≤ _
            omega
          generalize hH0 : offH all os h = H0 at *
          generalize hL0 : offR os l = L0 at *
          obtain ⟨aw, cw, rfl, hwL⟩ := SB.out.rl.form
          have n1 := SB.out.lv.n1
          have KK := Lib.hid (keys14_any (W := wr) aw L0 cw (by have := HH0.out; omega) hwL)
          clear st hwL
          go_upto_region 13 with fail
          go_wp2_with fail
          refine KK.out.mono ?_
          rintro e w1 ⟨vk, rfl, hrk, hbk⟩
          obtain ⟨ak, ck, rfl, hka, _⟩ := rowS_shape hrk
          have hyw : Y.heap.size ≤ wr.heap.size := SB.out.bw.size
          have hS1 := SB.out.below hbk
          have C0 : Hid (LC Y w1 w1 W.heap.size (.slice aH h.length cH) (.slice aL l.length cL) wh (.slice aw L0.length cw) (.slice ak (keysL (L0.map (·.k))).length ck) (.slice none 0 0) H0 L0 (keysL (L0.map (·.k))) []) :=
            ⟨hS1.lv, hS1.nY, hS1.rh, hS1.rl, row_mono hrk hyw, World.ownsRow_nil _ _ _ _, fun g e => (World.ownsRow.lt hrk g e).2, fun g e => (by cases e), hS1.bw, ⟨hS1.bw.size, Nat.le_refl _⟩⟩
          have HND := Lib.hid (keysL_nd (L0.map (·.k)))
          have HKL : Hid ((keysL (L0.map (·.k))).length ≤ 10000) := by
            have := keysL_len (L0.map (·.k))
            rw [List.length_map] at this
            have := HH0.out
            show _ ≤ _
            omega
          have HALL : Hid (∀ (H L : List Wc) (out : List Int), PU H0 L0 H L (keysL (L0.map (·.k))) out → PassR (offH all os h) (offR os l) H L out) := fun H L out q => by rw [hH0, hL0]; exact q.all
          have P0 : Hid (PU H0 L0 H0 L0 ((keysL (L0.map (·.k))).take 0) []) := by
            show PU _ _ _ _ _ _
            rw [List.take_zero]
            exact pu_none H0 L0
          generalize keysL (L0.map (·.k)) = ks at *
          have hks : (ks.length : Int) ≤ 10000 := by have := HKL.out; omega
          clear KK hrk hka hbk hyw hS1 n1 SB hH0 hL0 t0
          go_wp2
          go_loopw [11, 13] (fun vo i wx => ∃ (j : Nat) (wh wl : Value) (H L : List Wc) (out : List Int), i = .int .i64 (j : Int) ∧ j ≤ ks.length ∧ Hid (LC Y w1 wx W.heap.size (.slice aH h.length cH) (.slice aL l.length cL) wh wl (.slice ak ks.length ck) vo H L ks out) ∧ Hid (PU H0 L0 H L (ks.take j) out)) (fun _ i _ => ks.length - (intOf i).toNat)
          case atStart => exact ⟨0, _, _, _, _, _, rfl, Nat.zero_le _, C0, P0⟩
          case round =>
            obtain ⟨j, wh, wl, H, L, out, rfl, hj, st, pu⟩ := hrel
            rename World => wx
            clear C0 P0
            by_cases hlt : j < ks.length
            · have HLT := Lib.hid hlt
              have hji : (j : Int) < (ks.length : Int) := by omega
              have hjn : (0 : Int) ≤ (j : Int) := Int.natCast_nonneg _
              have htk : ks.take (j + 1) = ks.take j ++ [ks[j]] := List.take_succ_eq_append_getElem hlt
              have HTK := Lib.hid htk
              have hnd : ks[j] ∉ ks.take j := fun hm => by
                have h1 := HND.out
                rw [← List.take_append_drop (j + 1) ks, htk, List.append_assoc] at h1
                have h2 := (List.nodup_append.1 h1).2.2 _ hm ks[j] (by simp)
                exact h2 rfl
              have HNI := Lib.hid hnd
              have PI0 := Lib.hid (pu.out.begin hnd)
              obtain ⟨gk, ok, eak, HKC⟩ : ∃ b off, ak = some ⟨b, off, none⟩ ∧ Hid (∀ (X : World) (v2 v3 v4 : Value) (H2 L2 : List Wc) (o2 : List Int), LC Y w1 X W.heap.size (.slice aH h.length cH) (.slice aL l.length cL) v2 v3 (.slice ak ks.length ck) v4 H2 L2 ks o2 → X.cell? ⟨b, off + j, none⟩ = some (.string ks[j])) := by
                have key : ∀ X : World, RowS X Y.heap.size (.slice ak ks.length ck) ks → ∃ b, ak = some ⟨b, 0, none⟩ ∧ X.cell? ⟨b, 0 + j, none⟩ = some (.string ks[j]) := fun X hr => by
                  obtain ⟨g, cap, e, _, hc⟩ := hr.cells (by omega)
                  injection e with e _ _
                  refine ⟨g, e, ?_⟩
                  have := hc j hlt
                  rw [List.getD_eq_getElem?_getD, List.getElem?_eq_getElem hlt] at this
                  rw [Nat.zero_add]
                  exact this
                obtain ⟨b, e, _⟩ := key wx st.out.rk
                refine ⟨b, 0, e, fun X _ _ _ _ _ _ q => ?_⟩
                obtain ⟨b2, e2, hc⟩ := key X q.rk
                rw [e] at e2
                injection e2 with e2
                injection e2 with e2
                subst e2
                exact hc
              clear htk hnd pu
              generalize ks[j] = kk at *
              subst eak
              obtain ⟨ah, ch, rfl, _⟩ := st.out.rh.form
              obtain ⟨al, cl, rfl, _⟩ := st.out.rl.form
              have hbd : Below wx.heap.size wx wx.drew := (Below.refl _ _).drew
              have SD := Lib.hid (st.out.below hbd)
              have HLN : Hid (L.length ≤ 1000000) := by
                have h1 := PI0.out.n
                have h2 := HH0.out
                show _ ≤ _
                omega
              have K1 := Lib.hid (first14_any (W := wx.drew) ah H ch al L cl kk HLN.out (by
                obtain ⟨a2, c2, e, hw⟩ := SD.out.rl.form
                cases e; exact hw))
              unfold tabV at K1
              have d0 := SD.out.lv.n0
              have d1 := SD.out.lv.n1
              have c1 := HKC.out _ _ _ _ _ _ _ SD.out
              clear hbd st
              go_upto_region 17 with fail
              go_still_tail 5, (by kernel_rfl)
              change wpList _ _ _ _ _ wx.drew
              generalize wx.drew = wy at *
              go_wp2_with fail
              refine K1.out.mono ?_
              rintro e w2 ⟨rfl, hb2⟩
              have LF := Lib.hid (SD.out.below hb2)
              clear SD d0 d1 c1 K1 HLN hb2
              go_wp2
              go_loopw [11, 14] (fun vo kv wz => ∃ (wh wl : Value) (H L : List Wc) (out : List Int), kv = .int .i64 (placeL (isK kk) L) ∧ Hid (LC Y w1 wz W.heap.size (.slice aH h.length cH) (.slice aL l.length cL) wh wl (.slice (some ⟨gk, ok, none⟩) ks.length ck) vo H L ks out) ∧ Hid (PI H0 L0 H L (ks.take j) kk out)) (fun vo _ _ => L0.length + 1 - sliceLen vo)
              case atStart => exact ⟨_, _, _, _, _, rfl, LF, PI0⟩
              case round =>
                obtain ⟨wh, wl, H, L, out, rfl, st, pi⟩ := hrel
                rename World => wz
                clear LF PI0
                have HLN : Hid (H.length + L.length ≤ 10000) := by
                  have := pi.out.n
                  have := HH0.out
                  show _ ≤ _
                  omega
                obtain ⟨ah, ch, rfl, _⟩ := st.out.rh.form
                obtain ⟨al, cl, rfl, hwl⟩ := st.out.rl.form
                have n0 := st.out.lv.n0
                have n1 := st.out.lv.n1
                rcases placeL_cases (isK kk) L with ⟨ep, hno⟩ | ⟨p, hp, ep, hp0, hp1⟩
                · have PF : Hid (PU H0 L0 H L (ks.take (j + 1)) out) := by
                    show PU _ _ _ _ _ _
                    rw [HTK.out]
                    exact pi.out.fin (stop_none hno)
                  have LF : Hid (∀ n, LC Y w1 (wz.drewN n) W.heap.size (.slice aH h.length cH) (.slice aL l.length cL) (.slice ah H.length ch) (.slice al L.length cl) (.slice (some ⟨gk, ok, none⟩) ks.length ck) u11 H L ks out) := fun n => st.out.below (below_drewN (Below.refl _ _) n)
                  rw [ep]
                  clear st pi hwl
                  go_upto_region 18 with fail
                  go_quiet (fail)
                  go_wp2
                  go_roundw
                  case rel => exact ⟨j + 1, _, _, _, _, _, by go_num, HLT.out, LF.out _, PF⟩
                  case measure => simp [intOf]; have := HLT.out; omega
                · have hpn : (0 : Int) ≤ (p : Int) := Int.natCast_nonneg _
                  have hpi : (p : Int) < (L.length : Int) := by omega
                  have hbd : Below wz.heap.size wz wz.drew := (Below.refl _ _).drew
                  obtain ⟨bl, ol, rfl, k0, k1, k2⟩ := (hwl.below hbd).cell hp
                  have SD := Lib.hid (st.out.below hbd)
                  have KR := Lib.hid (free14_any (W := wz.drew) ah H ch (some ⟨bl, ol, none⟩) L cl L[p] (by have := HLN.out; omega) (by
                    obtain ⟨a2, c2, e, hw⟩ := SD.out.rh.form
                    cases e; exact hw))
                  unfold tabV at KR
                  have PY : Hid (freeR H L[p] = true → PI H0 L0 (holdR L[p] H) (L.take p ++ L.drop (p + 1)) (ks.take j) kk (out ++ [L[p].ow])) := fun q => pi.out.step HNI.out hp hp0 hp1 q
                  have PN : Hid (freeR H L[p] = false → PU H0 L0 H L (ks.take (j + 1)) out) := fun q => by
                    rw [HTK.out]
                    exact pi.out.fin (stop_busy hp hp0 hp1 q)
                  have HP := Lib.hid hp
                  have HOL : Hid (out.length ≤ L0.length) := by
                    have := pi.out.m
                    show _ ≤ _
                    omega
                  have d0 := SD.out.lv.n0
                  have d1 := SD.out.lv.n1
                  rw [ep]
                  clear hp0 hp1 ep pi st hbd hwl n0 n1
                  generalize L[p] = x at *
                  obtain ⟨xk, xw, xo⟩ := x
                  replace k0 : wz.drew.cell? ⟨bl, ol + p * 3, none⟩ = some (.int .i64 xo) := k0
                  replace k1 : wz.drew.cell? ⟨bl, ol + p * 3 + 1, none⟩ = some (.string xk) := k1
                  replace k2 : wz.drew.cell? ⟨bl, ol + p * 3 + 2, none⟩ = some (.bool xw) := k2
                  cases hf : freeR H ⟨xk, xw, xo⟩ with
                  | false =>
                    have PF := Lib.hid (PN.out hf)
                    rw [hf] at KR
                    clear PY PN
                    go_upto_region 18 with fail
                    go_region_law ((go_simp; go_at_call 46; (with_reducible refine KR.out.mono ?_); rintro e w2 ⟨rfl, hb2⟩; have LF := Lib.hid (SD.out.below hb2); clear hb2; go_simp))
                    all_goals clear SD k0 k1 k2 d0 d1 KR
                    all_goals go_wp2
                    all_goals
                      go_roundw
                      case rel => exact ⟨j + 1, _, _, _, _, _, by go_num, HLT.out, LF, PF⟩
                      case measure => simp [intOf]; have := HLT.out; omega
                  | true =>
                    have PF := Lib.hid (PY.out hf)
                    rw [hf] at KR
                    clear PY PN
                    go_upto_region 18 with fail
                    go_region_law ((go_simp; go_at_call 46; (with_reducible refine KR.out.mono ?_); rintro e w2 ⟨rfl, hb2⟩; have LF := Lib.hid (SD.out.below hb2); have K0 := Lib.hid (keep_cell hb2 k0); have K1 := Lib.hid (keep_cell hb2 k1); have K2 := Lib.hid (keep_cell hb2 k2); clear hb2; go_simp))
                    all_goals clear SD k0 k1 k2 d0 d1 KR
                    all_goals
                      have hN2 := LF.out.lv.sz
                      obtain ⟨g0, g1, g2⟩ : (w2.alloc (.cells #[.int .i64 xo, .string xk, .bool xw] 67)).cell? ⟨w2.heap.size, 0, none⟩ = some (.int .i64 xo) ∧ (w2.alloc (.cells #[.int .i64 xo, .string xk, .bool xw] 67)).cell? ⟨w2.heap.size, 1, none⟩ = some (.string xk) ∧ (w2.alloc (.cells #[.int .i64 xo, .string xk, .bool xw] 67)).cell? ⟨w2.heap.size, 2, none⟩ = some (.bool xw) := ⟨new_cell rfl rfl, new_cell rfl rfl, new_cell rfl rfl⟩
                      have hba : Below w2.heap.size w2 (w2.alloc (.cells #[.int .i64 xo, .string xk, .bool xw] 67)) := (Below.refl _ _).alloc (Nat.le_refl _) _
                      have L1 := Lib.hid (LF.out.below hba)
                      have n1 := LF.out.lv.n1
                      have k0 := K0.out
                      have k1 := K1.out
                      have k2 := K2.out
                      have HML : Hid (w2.heap.size < (w2.alloc (.cells #[.int .i64 xo, .string xk, .bool xw] 67)).heap.size) := by
                        show _ < _
                        rw [World.size_alloc]; omega
                      have HMN : Hid (W.heap.size + 1 + 1 < w2.heap.size) := hN2
                      clear hba LF K0 K1 K2
                      go_upto_region 21 with fail
                      generalize w2.alloc (.cells #[.int .i64 xo, .string xk, .bool xw] 67) = X1 at *
                      generalize hM : w2.heap.size = M at HML HMN g0 g1 g2 ⊢
                      clear n1 k0 k1 k2 hM hN2
                      have HC1 : Hid (CL X1 M ⟨xk, xw, xo⟩) := ⟨g0, g1, g2⟩
                      clear g0 g1 g2
                      have KN := Lib.hid (without14_row (W := X1) L1.out.rl.q p (by have := HLN.out; omega) HP.out)
                      have n1 := L1.out.lv.n1
                      go_wp2_with fail
                      refine KN.out.mono ?_
                      rintro e X2 ⟨v2, rfl, hr2, hb2⟩
                      have L2a := L1.out.below hb2
                      have hc2 := HC1.out.below hb2
                      have hm2 : M < X2.heap.size := Nat.lt_of_lt_of_le HML.out hb2.size
                      have L2 := Lib.hid (L2a.putL (hr2.mono (Nat.le_trans (Nat.le_trans L1.out.ws.1 L1.out.ws.2) (Nat.le_refl _))) (fun g e q => by
                        have h1 := (World.ownsRow.lt hr2 g q).1
                        have h2 := (World.ownsRow.lt L1.out.ro g e).2
                        omega))
                      have hsl : (L.take p ++ L.drop (p + 1)).length ≤ 90000 := by rw [List.length_append, List.length_take, List.length_drop]; have := HLN.out; omega
                      obtain ⟨a2, c2, hv2, _⟩ := hr2.form
                      generalize hL2 : L.take p ++ L.drop (p + 1) = L2l at *
                      subst hv2
                      have HC3 : Hid (CL (X2.setCell ⟨W.heap.size + 1 + 1, 1, none⟩ (.slice a2 L2l.length c2)) M ⟨xk, xw, xo⟩) := ⟨sc_ne hc2.c0 (.inl (by have := HMN.out; omega)), sc_ne hc2.c1 (.inl (by have := HMN.out; omega)), sc_ne hc2.c2 (.inl (by have := HMN.out; omega))⟩
                      have HM3 : Hid (M < (X2.setCell ⟨W.heap.size + 1 + 1, 1, none⟩ (.slice a2 L2l.length c2)).heap.size) := Nat.lt_of_lt_of_le hm2 (sc_size _ _ _ _)
                      have y1 := L2a.lv.n1
                      have f2 := L2a.lv.f2
                      clear KN hr2 hb2 hc2 hm2 L2a L1 HC1 HML n1
                      go_upto_region 22 with fail
                      generalize X2.setCell ⟨W.heap.size + 1 + 1, 1, none⟩ (.slice a2 L2l.length c2) = X3 at *
                      clear y1 f2
                      have n0 := L2.out.lv.n0
                      have n1 := L2.out.lv.n1
                      obtain ⟨g0, g1, g2⟩ := HC3.out
                      have KH := Lib.hid (hold14_any (W := X3) ah H ch a2 L2l c2 ⟨xk, xw, xo⟩ (by have := HLN.out; omega) L2.out.rh.q)
                      unfold tabV at KH
                      go_wp2_with fail
                      refine KH.out.mono ?_
                      rintro e X4 ⟨v4, rfl, hr4, hb4⟩
                      have L4 := L2.out.below hb4
                      have hc4 := HC3.out.below hb4
                      have hm4 : M < X4.heap.size := Nat.lt_of_lt_of_le HM3.out hb4.size
                      have hn4 : ∀ g, u11.ownBlock = some g → v4.ownBlock ≠ some g := fun g e q => by
                        have h1 := (World.ownsRow.lt hr4 g q).1
                        have h2 := (World.ownsRow.lt L2.out.ro g e).2
                        omega
                      have L5 := L4.putH (hr4.mono (Nat.le_trans L2.out.ws.1 L2.out.ws.2)) hn4
                      have L6 := Lib.hid (L5.putL L5.rl (fun g e => (L5.ne g e).2))
                      obtain ⟨a4, c4, hv4, _⟩ := hr4.form
                      generalize hH4 : holdR ⟨xk, xw, xo⟩ H = H4 at *
                      subst hv4
                      have x0 := L4.lv.n0
                      have x1 := L5.lv.n1
                      have f2 := L4.lv.f2
                      have f3 := L5.lv.f2
                      have hmn := HMN.out
                      have HC6 : Hid (CL ((X4.setCell ⟨W.heap.size + 1 + 1, 0, none⟩ (.slice a4 H4.length c4)).setCell ⟨W.heap.size + 1 + 1, 1, none⟩ (.slice a2 L2l.length c2)) M ⟨xk, xw, xo⟩) := ⟨sc_ne (sc_ne hc4.c0 (.inl (by omega))) (.inl (by omega)), sc_ne (sc_ne hc4.c1 (.inl (by omega))) (.inl (by omega)), sc_ne (sc_ne hc4.c2 (.inl (by omega))) (.inl (by omega))⟩
                      clear KH hr4 hb4 hc4 hm4 hn4 L4 L5 L2 HC3 HM3 n0 n1 g0 g1 g2 hmn
                      go_upto_region 23 with fail
                      generalize (X4.setCell ⟨W.heap.size + 1 + 1, 0, none⟩ (.slice a4 H4.length c4)).setCell ⟨W.heap.size + 1 + 1, 1, none⟩ (.slice a2 L2l.length c2) = X6 at *
                      clear x0 x1 f2 f3
                      obtain ⟨g0, g1, g2⟩ := HC6.out
                      have hbe : Below X6.heap.size X6 (X6.alloc (.cells #[.int .i64 xo] 3)) := (Below.refl _ _).alloc (Nat.le_refl _) _
                      have L7 := Lib.hid (L6.out.below hbe)
                      have hcl : (X6.alloc (.cells #[.int .i64 xo] 3)).cell? ((⟨X6.heap.size, 0, none⟩ : Addr).add 0) = some (.int .i64 xo) := new_cell rfl rfl
                      have hsB := L7.out.ws.2
                      have hol : out.length ≤ 1000000 := by have := HOL.out; have := HH0.out; omega
                      clear hbe L6 HC6
                      go_wp2_with (at_builtin; refine append_i2 rfl _ _ rfl w1.heap.size u11 out ⟨X6.heap.size, 0, none⟩ xo 1 rfl L7.out.ro rfl hcl hol hsB ?_)
                      intro v8 w8 hr8 hg8 ho8
                      have L8 := Lib.hid (L7.out.putO hr8 hg8 (ho8.imp id (fun e => ⟨_, e, by rw [World.size_alloc]; exact Nat.le_refl _⟩)))
                      have HLO : Hid (sliceLen v8 = out.length + 1 ∧ sliceLen u11 = out.length) := by
                        refine ⟨?_, ?_⟩
                        · rcases hr8.2 with ⟨e, hn⟩ | ⟨g, cap, cur, e, _⟩
                          · simp at hn
                          · rw [e]; simp [sliceLen]
                        · rcases L7.out.ro.2 with ⟨e, hn⟩ | ⟨g, cap, cur, e, _⟩
                          · rw [e, hn]; rfl
                          · rw [e]; rfl
                      clear hr8 hg8 ho8 L7 hcl hsB g0 g1 g2
                      have hbd8 : Below w8.heap.size w8 w8.drew := (Below.refl _ _).drew
                      have SD8 := Lib.hid (L8.out.below hbd8)
                      have KF := Lib.hid (first14_any (W := w8.drew) a4 H4 c4 a2 L2l c2 kk (by omega) (by
                        obtain ⟨a9, c9, e, hw⟩ := SD8.out.rl.form
                        cases e; exact hw))
                      unfold tabV at KF
                      have d0 := SD8.out.lv.n0
                      have d1 := SD8.out.lv.n1
                      have e1 := HKC.out _ _ _ _ _ _ _ SD8.out
                      clear hbd8 L8
                      go_upto_region 19 with fail
                      go_still_tail 5, (by kernel_rfl)
                      change wpList _ _ _ _ _ w8.drew
                      generalize w8.drew = wy8 at *
                      go_wp2_with fail
                      refine KF.out.mono ?_
                      rintro e w9 ⟨rfl, hb9⟩
                      have L9 := Lib.hid (SD8.out.below hb9)
                      clear SD8 d0 d1 e1 KF hb9
                      go_wp2
                      all_goals
                        go_roundw
                        case rel => exact ⟨_, _, _, _, _, rfl, L9, PF⟩
                        case measure => have := HLO.out; have := HOL.out; omega
            · obtain rfl : j = ks.length := by omega
              have hpr : PassR (offH all os h) (offR os l) H L out := HALL.out H L out (by have := pu.out; rw [List.take_length] at this; exact this)
              have HPR := Lib.hid hpr
              obtain ⟨ah, ch, rfl, _⟩ := st.out.rh.form
              obtain ⟨al, cl, rfl, _⟩ := st.out.rl.form
              have n0 := st.out.lv.n0
              have n1 := st.out.lv.n1
              have r0 := st.out.lv.r0
              have f1 := st.out.lv.f1
              obtain ⟨z1, f2, p0, p1⟩ := res_fin (vh := .slice ah H.length ch) (vl := .slice al L.length cl) st.out.lv.r0 st.out.lv.r1 st.out.lv.f1
              have hNY := st.out.nY
              have HBF := Lib.hid (TR.bel (vh := .slice ah H.length ch) (vl := .slice al L.length cl) (HB.out.trans st.out.bw))
              have HRH := Lib.hid ((TR.row (vh := .slice ah H.length ch) (vl := .slice al L.length cl) (N := W.heap.size) st.out.rh (fun g e c => by have := (World.ownsRow.lt st.out.rh g e).1; omega)).mono HB.out.size)
              have HRL := Lib.hid ((TR.row (vh := .slice ah H.length ch) (vl := .slice al L.length cl) (N := W.heap.size) st.out.rl (fun g e c => by have := (World.ownsRow.lt st.out.rl g e).1; omega)).mono HB.out.size)
              have hws := st.out.ws
              have HRO : Hid (RowI ((wx.setCell ⟨W.heap.size + 1, 0, none⟩ (.slice ah H.length ch)).setCell ⟨W.heap.size + 1, 1, none⟩ (.slice al L.length cl)) W.heap.size u11 out) := rowI_mono (rowI_set2 (rowI_set2 st.out.ro _ _ (by show W.heap.size + 1 < _; omega)) _ _ (by show W.heap.size + 1 < _; omega)) (by omega)
              clear st pu hpr hNY hws
              go_wp2
              refine bodyPost_ret (v := .tuple #[.agg #[.slice ah H.length ch, .slice al L.length cl], u11]) ?_ rfl ⟨_, _, _, _, _, _, rfl, HRH.out, HRL.out, HRO.out, HPR.out, HBF.out⟩
              simp only [results, Try.results22]
              go_simp

end
end Go.Proofs.Ytjojempjmpaaaaa
