/-
  A ROW OF CLAIMS IS SORTED BY ITS KEYS.
  A TABLE OF LOCKS: Holds of anybody.
-/
import Derived.Test.YtjojempjmpaaaaaLkm9
import Derived.Test.YtjojempjmpaaaaaLkm10
import Derived.Test.YtjojempjmpaaaaaLooseShelf
import Derived.Sort.OwnSorted
import Derived.Test.YtjojempjmpaaaaaLkGoAny
namespace Go.Proofs.Ytjojempjmpaaaaa
open Go.RowKit Go.Sort
abbrev Cl := ByteArray × Bool
def cmpK (a b : ByteArray) : Int := if a.data.toList < b.data.toList then -1 else if b.data.toList < a.data.toList then 1 else 0
def cfC (x y : Cl) : Int := cmpK x.1 y.1
def encC (x : Cl) : List Value := [.string x.1, .bool x.2]
theorem ltOf_cfC (x y : Cl) : ltOf cfC x y = ltStr x.1.data.toList y.1.data.toList := by
  unfold ltOf cfC cmpK ltStr
  by_cases h : x.1.data.toList < y.1.data.toList
  · rw [if_pos h]; simp [h]
  · rw [if_neg h]
    split <;> simp [h]
theorem swo_cfC : SWO (ltOf cfC) where
  irrefl x := by rw [ltOf_cfC]; exact swo_ltStr.irrefl _
  trans x y z h1 h2 := by rw [ltOf_cfC] at *; exact swo_ltStr.trans _ _ _ h1 h2
  ntrans x y z h1 h2 := by rw [ltOf_cfC] at *; exact swo_ltStr.ntrans _ _ _ h1 h2
theorem isNaN_any (a : ByteArray) (W : World) : Calls Try.prog 60 #[.string a] W fun e W' => e = .returned (.bool false) ∧ W = W' := by
  go_enter Try.func60, Try.ntmps60
  go_wp2
  go_ret
  exact ⟨by simp, rfl⟩
theorem less_str (a b : ByteArray) : Op.bytesLess a.toList b.toList = decide (a.data.toList < b.data.toList) := by
  rw [bytesLess_eq, Lib.toList_data, Lib.toList_data]
theorem gtr_str (w : World) (t : TypeId) (a b : ByteArray) : (binOp .gtr t (.string a) (.string b)).run Try.prog w = .ok (.bool (decide (b.data.toList < a.data.toList))) w := by
  have e : binOp .gtr t (.string a) (.string b) = pure (.bool !(Op.bytesLess a.toList b.toList || a.toList == b.toList)) := by simp [binOp, Op.stringOp]
  rw [e, bytesLess_eq, Lib.toList_data, Lib.toList_data]
  have : (!(decide (a.data.toList < b.data.toList) || a.data.toList == b.data.toList)) = decide (b.data.toList < a.data.toList) := by
    by_cases h : b.data.toList < a.data.toList
    · have h1 : ¬ a.data.toList < b.data.toList := fun c => List.lt_irrefl _ (List.lt_trans h c)
      have h2 : ¬ a.data.toList = b.data.toList := fun c => by rw [c] at h; exact List.lt_irrefl _ h
      rw [decide_eq_true h, decide_eq_false h1, beq_false_of_ne h2]; rfl
    · by_cases h1 : a.data.toList < b.data.toList
      · rw [decide_eq_true h1, decide_eq_false h]; rfl
      · have h2 : a.data.toList = b.data.toList := List.le_antisymm (List.not_lt.1 h) (List.not_lt.1 h1)
        simp [h2, List.lt_irrefl]
  rw [this]; rfl
theorem compare_any (a b : ByteArray) (W : World) : Calls Try.prog 40 #[.string a, .string b] W fun e W' => e = .returned (.int .i64 (cmpK a b)) ∧ W = W' := by
  have KA := Lib.hid (isNaN_any a W)
  have KB := Lib.hid (isNaN_any b W)
  have HL := less_str a b
  have HG := gtr_str W 9 a b
  go_enter Try.func40, Try.ntmps40
  go_wp2_with fail
  refine KA.out.mono ?_
  rintro e w1 ⟨rfl, rfl⟩
  go_wp2_with fail
  refine KB.out.mono ?_
  rintro e w1 ⟨rfl, rfl⟩
  clear KA KB
  by_cases h : a.data.toList < b.data.toList
  · rw [decide_eq_true h] at HL
    go_wp2
    go_ret
    exact ⟨by unfold cmpK; simp [h], rfl⟩
  · rw [decide_eq_false h] at HL
    by_cases h2 : b.data.toList < a.data.toList
    · rw [decide_eq_true h2] at HG
      go_wp2
      go_ret
      exact ⟨by unfold cmpK; simp [h, h2], rfl⟩
    · rw [decide_eq_false h2] at HG
      go_wp2
      go_ret
      exact ⟨by unfold cmpK; simp [h, h2], rfl⟩
theorem closureC (x y : Cl) (W : World) : Calls Try.prog 39 #[.agg #[.string x.1, .bool x.2], .agg #[.string y.1, .bool y.2]] W fun e w' => e = .returned (.int .i64 (cfC x y)) ∧ ∃ q os', w' = Sort.grow (W.drewN q) os' := by
  have KC := Lib.hid (fun W => compare_any x.1 y.1 W)
  unfold cfC
  generalize cmpK x.1 y.1 = r at *
  go_enter Try.func39, Try.ntmps39
  go_wp2_with fail
  refine (KC.out _).mono ?_
  rintro e w1 ⟨rfl, rfl⟩
  clear KC
  go_wp2
  go_ret
  exact ⟨rfl, 0, _, by rw [alloc_eq_grow, alloc_eq_grow, grow_grow]; rfl⟩
/-- The cells of claims. -/
def flatC (l : List Cl) : List Value := l.flatMap encC
theorem flatC_len (l : List Cl) : (flatC l).length = l.length * 2 := by
  unfold flatC
  induction l with
  | nil => rfl
  | cons a t ih => rw [List.flatMap_cons, List.length_append, ih, List.length_cons]; show 2 + _ = _; omega
theorem flatC_get (l : List Cl) : ∀ t, t < l.length * 2 → (flatC l)[t]? = some ((encC (l[t / 2]!))[t % 2]!) := by
  unfold flatC
  induction l with
  | nil => intro t h; simp at h
  | cons a l ih =>
    intro t h
    rw [List.flatMap_cons]
    match t, h with
    | 0, _ => rfl
    | 1, _ => rfl
    | t + 2, h =>
      have e1 : (t + 2) / 2 = t / 2 + 1 := by omega
      have e2 : (t + 2) % 2 = t % 2 := by omega
      have h2 : t < l.length * 2 := by rw [List.length_cons] at h; omega
      rw [e1, e2, List.getElem?_append_right (by show 2 ≤ t + 2; omega), show t + 2 - (encC a).length = t from by show t + 2 - 2 = t; omega, ih t h2]
      have : (a :: l)[t / 2 + 1]! = l[t / 2]! := by simp
      rw [this]
theorem flatK_C (l : List Cl) : (flatK encC 2 l.toArray).toList = flatC l := by
  apply List.ext_getElem?
  intro t
  by_cases h : t < l.length * 2
  · rw [flatC_get l t h]
    have : (flatK encC 2 l.toArray).toList[t]? = some ((flatK encC 2 l.toArray)[t]!) := by
      rw [Array.getElem?_toList, Array.getElem?_eq_getElem (by simpa using h), getElem!_pos _ t (by simpa using h)]
    rw [this, get_flatK _ _ _ _ (by simpa using h)]
    simp
  · rw [List.getElem?_eq_none (by simp; omega), List.getElem?_eq_none (by rw [flatC_len]; omega)]
/-- A row of claims of the call's own. -/
def RowCl (W : World) (B : Nat) (v : Value) (l : List Cl) : Prop := W.ownsRow B 40 2 v l.length (flatC l)
theorem heap_put {w : World} {g n : Nat} {os : Array Obj} {cur : Array Value} {e : TypeId} {fr : Nat × Nat} (d : Array Value) (hb : w.heap[g]? = some (.cells cur e fr)) :
    (Sort.grow (putRow id (Sort.ahead w n) g 0 d) os).heap[g]? = some (.cells (putCells id 0 d cur) e fr) := by
  have hg : g < w.heap.size := (Array.getElem?_eq_some_iff.1 hb).1
  rw [heap_grow_old _ _ (by simpa using hg)]
  simp [putRow, mapBlock, Sort.ahead, Array.getElem?_modify, hb, onCells]
theorem grownBy_put {w : World} {g n : Nat} {os : Array Obj} (d : Array Value) : w.grownBy (Sort.grow (putRow id (Sort.ahead w n) g 0 d) os) (some g) := by
  refine ⟨rfl, rfl, rfl, by simp, fun k hk hne => ?_⟩
  rw [heap_grow_old _ _ (by simpa using hk)]
  have : g ≠ k := fun e => hne (by rw [e])
  simp [putRow, mapBlock, Sort.ahead, Array.getElem?_modify, this]
theorem take_put (cur : Array Value) (ts : List Value) (h : ts.length ≤ cur.size) : (putCells id 0 ts.toArray cur).toList.take ts.length = ts := by
  apply List.ext_getElem?
  intro j
  by_cases hj : j < ts.length
  · rw [List.getElem?_take_of_lt hj, Array.getElem?_toList]
    simp [putCells, hj, show j < cur.size by omega]
  · rw [List.getElem?_take_eq_none (by omega), List.getElem?_eq_none (by omega)]
/-- Sorted by keys. -/
def SortC (l : List Cl) : Prop := l.Pairwise fun x y => ¬ y.1.data.toList < x.1.data.toList
theorem sort_claims {W : World} {B : Nat} {v : Value} {l : List Cl} (h : RowCl W B v l) (hl : l.length ≤ 1000000) :
    Calls Try.prog 38 #[v, .func (.func 39) #[] #[]] W fun e w' => e = .returned (.tuple #[]) ∧ ∃ l', l'.Perm l ∧ SortC l' ∧ RowCl w' B v l' ∧ W.grownBy w' v.ownBlock := by
  rcases h.2 with ⟨hv, hn⟩ | ⟨g, cap, cur, hv, hbase, hb, h1, h2, h3, h4⟩
  · subst hv
    refine (AnyF.slices_SortFunc_none Try.sortFuncA none 0 _ W).mono ?_
    rintro e w' ⟨rfl, rfl⟩
    have : l = [] := List.length_eq_zero_iff.1 hn
    subst this
    exact ⟨rfl, [], List.Perm.refl _, List.Pairwise.nil, h, World.grownBy.refl _ _⟩
  · subst hv
    have hH : HoldsK encC 2 W g 0 l.toArray := by
      intro j hj
      have hj : j < l.length * 2 := by simpa using hj
      refine ⟨?_, by simp [World.frozen?, hb]⟩
      have e1 : (flatK encC 2 l.toArray)[j]! = (encC (l[j / 2]!))[j % 2]! := by rw [get_flatK _ _ _ _ (by simpa using hj)]; simp
      rw [e1]
      have e2 := flatC_get l j hj
      rw [← h4, List.getElem?_take_of_lt hj, Array.getElem?_toList] at e2
      simp only [World.cell?, hb, Nat.zero_add]
      exact e2
    have eg : ∀ args w, (callFunc 39 args).run Try.prog w = .ok (.enter 39 args) w := enters_of Try.func39 (by kernel_rfl) rfl
    have hc := AnyQ.slices_SortFunc Try.sortFuncA 2 Try.isAgg40 Try.sizeOf40 encC (fun _ => rfl) (fun x v hv => by simp [encC] at hv; rcases hv with rfl | rfl <;> rfl) cfC swo_cfC 39 #[] g 0 cap l.toArray W eg (fun _ _ _ _ x y => closureC x y _) hH (Array.getElem?_eq_some_iff.1 hb).1 (by simp; omega)
    have hc : Calls Try.prog 38 #[.slice (some ⟨g, 0, none⟩) l.length cap, .func (.func 39) #[] #[]] W _ := hc
    refine hc.mono ?_
    rintro e w' ⟨rfl, d', n, os, hp, hs, rfl⟩
    have hsz : d'.size = l.length := by simpa using hp.1
    have hpl : d'.toList.Perm l := by
      have := hp.2.2
      simp only [List.size_toArray] at this
      rw [← hsz, Array.extract_size] at this
      have e : (l.toArray.extract 0 d'.size).toList = l := by rw [hsz]; simp
      rw [e] at this; exact this
    have hll : d'.toList.length = l.length := by simpa using hsz
    have hF : (flatK encC 2 d') = (flatC d'.toList).toArray := by
      have := flatK_C d'.toList
      rw [Array.toArray_toList] at this
      rw [← this, Array.toArray_toList]
    have hw : sortWorldK encC 2 W g 0 n d' os = Sort.grow (putRow id (Sort.ahead W n) g 0 (flatC d'.toList).toArray) os := by
      unfold sortWorldK putRowK
      rw [hF]
    rw [hw]
    have hle : (flatC d'.toList).length ≤ cur.size := by
      rw [flatC_len, hll, h3]
      exact Nat.mul_le_mul_right 2 h1
    refine ⟨rfl, d'.toList, hpl, ?_, ⟨by rw [flatC_len], .inr ⟨g, cap, _, by rw [hll], hbase, heap_put _ hb, by rw [hll]; exact h1, h2, by simp [putCells, h3], ?_⟩⟩, grownBy_put _⟩
    · unfold SortC
      rw [List.pairwise_iff_getElem]
      intro i j hi hj hij
      have h5 := hs i j (Nat.zero_le _) hij (by simpa [hsz] using hj)
      rw [ltOf_cfC] at h5
      have hi' : i < d'.size := by simpa using hi
      have hj' : j < d'.size := by simpa using hj
      rw [getElem!_pos d' i hi', getElem!_pos d' j hj'] at h5
      have h6 : ¬ d'[j].1.data.toList < d'[i].1.data.toList := by simpa [ltStr] using h5
      simpa using h6
    · have := take_put cur (flatC d'.toList) hle
      rw [flatC_len] at this; exact this
end Go.Proofs.Ytjojempjmpaaaaa

namespace Go.Proofs.Ytjojempjmpaaaaa
open Go.RowKit Go.Maps Go.ChangeMaps Go.MapKept Go.WideElems Go.WideMaps
/-- What an owner claims of a key. -/
noncomputable def clm (s : Lk) (o : Int) (k : ByteArray) : Cl := match s.hd o k with
  | some w => (k, (s.con w).wr)
  | none => (k, false)
theorem clm_k (s : Lk) (o : Int) (k : ByteArray) : (clm s o k).1 = k := by unfold clm; split <;> rfl
theorem flatC_snoc (l : List Cl) (c : Cl) : flatC (l ++ [c]) = flatC l ++ encC c := by unfold flatC; rw [List.flatMap_append]; simp
theorem append_cl {w : World} {ops : Array Oper} {rest : List Oper} {o : Oper} {a : Act} {Q : Exit → Act → World → Prop} (hgd : o.guard = none) (s x : Operand)
    (ho : o.op = .call { callee := .builtin .append, args := #[s, x], argTypes := #[44, 44] })
    (B : Nat) (v : Value) (l : List Cl) (ad : Addr) (y : Cl) (c : Nat) (hs : a.eval s = v) (hown : RowCl w B v l) (hx : a.eval x = .slice (some ad) 1 c) (hc : w.cell? (ad.add 0) = some (.string y.1)) (hc1 : w.cell? (ad.add 1) = some (.bool y.2)) (h10 : l.length ≤ 1000000) (hB : B ≤ w.heap.size)
    (h : ∀ v' w', RowCl w' B v' (l ++ [y]) → w.grownBy w' v.ownBlock → (v'.ownBlock = v.ownBlock ∨ v'.ownBlock = some w.heap.size) → wpList Try.prog ops Q rest (a.put o.dst v') w') :
    wpList Try.prog ops Q (o :: rest) a w := by
  obtain ⟨i0, hi, hzz⟩ := Option.map_eq_some_iff.1 infoC
  simp only [Prod.mk.injEq] at hzz
  obtain ⟨hz0, hz1, hz2⟩ := hzz
  refine wpList_append_own_at _ hgd s x 44 ho B 40 i0 _ 2 24 Try.underlying44 hi hz0 hz1 hz2 rfl (by decide) v l.length (flatC l) hs hown ad 1 c [.string y.1, .bool y.2] hx rfl ?_ ?_ (by unfold maxLen; omega) (by omega) hB (fun v' w' h1 hg _ h4 => h v' w' ?_ hg h4)
  · intro j u' hj
    match j, hj with
    | 0, hj => simp at hj; subst hj; exact hc
    | 1, hj => simp at hj; subst hj; exact hc1
  · intro u' hu; simp at hu; rcases hu with rfl | rfl <;> rfl
  · unfold RowCl
    rw [List.length_append, flatC_snoc]; exact h1
section
variable {B : Nat} {W X : World} {T ml mh mw n : Nat} {s : Lk} {o : Int}
structure HoA (W wr : World) (n R : Nat) (s : Lk) (o : Int) (D0 : DataW Unit) (dn : List ByteArray) (v : Value) (lf : Lit → Bool) (cnt : Nat) : Prop where
  rg : It wr (s.hm o) R n D0 lf cnt
  lf : ∀ t : ByteArray, lf (.string t.data.toList) = true ↔ (s.hd o t ≠ none ∧ t ∉ dn)
  mem : ∀ k, k ∈ dn → s.hd o k ≠ none
  nd : dn.Nodup
  row : RowCl wr W.heap.size v (dn.map (clm s o))
  f0 : dn = [] → v = .slice none 0 0
  cn : dn.length + cnt ≤ n
  bw : Below W.heap.size W wr
  hR : W.heap.size ≤ R
/-- What Holds tells. -/
def HoS (s : Lk) (o : Int) (W : World) (e : Ending) (W' : World) : Prop :=
  ∃ (v : Value) (l : List Cl) (ks : List ByteArray), e = .returned v ∧ RowCl W' W.heap.size v l ∧ (l = [] → v = .slice none 0 0) ∧ SortC l ∧ l.Perm (ks.map (clm s o)) ∧ ks.Nodup ∧ (∀ k, k ∈ ks ↔ s.hd o k ≠ none) ∧ Below W.heap.size W W'
theorem HoA.next {wr w2 w5 : World} {R : Nat} {D0 : DataW Unit} {dn : List ByteArray} {v v' : Value} {lf : Lit → Bool} {cnt cnt1 : Nat} (h : HoA W wr n R s o D0 dn v lf cnt) (ht : LkAt B W T ml mh mw n s) {x : ByteArray} {w : Nat} (hlf : lf (.string x.data.toList) = true) (hw : s.hd o x = some w)
    (hit : It w2 (s.hm o) R n D0 (fun z => lf z && !z.sameKey (.string x.data.toList)) cnt1) (hlt : cnt1 < cnt) (hb2 : Below W.heap.size W w2) (hrow2 : RowCl w2 W.heap.size v (dn.map (clm s o)))
    (hrow : RowCl w5 W.heap.size v' (dn.map (clm s o) ++ [clm s o x])) (hg : (w2.alloc (.cells #[.string x, .bool (s.con w).wr] 40)).grownBy w5 v.ownBlock) :
    HoA W w5 n R s o D0 (dn ++ [x]) v' (fun z => lf z && !z.sameKey (.string x.data.toList)) cnt1 := by
  have hx := (h.lf x).1 hlf
  have ba : Below w2.heap.size w2 (w2.alloc (.cells #[.string x, .bool (s.con w).wr] 40)) := (Below.refl _ _).alloc (Nat.le_refl _) _
  have own := own0 hrow2 (by decide) (fun e => h.f0 (by simpa using e))
  have lts := ht.below hb2
  have it4 : It (w2.alloc (.cells #[.string x, .bool (s.con w).wr] 40)) (s.hm o) R n D0 (fun z => lf z && !z.sameKey (.string x.data.toList)) cnt1 := hit.keep (fun m hm => ba.block m (lts.md o m hm).lt) (ba.block R hit.lt)
  have hW2 : W.heap.size ≤ w2.heap.size := hb2.size
  refine ⟨it4.keep (fun m hm => hg.block m (Nat.lt_of_lt_of_le (lts.md o m hm).lt ba.size) (fun c => ?_)) (hg.block R (Nat.lt_of_lt_of_le hit.lt ba.size) (fun c => ?_)), fun t => ?_, fun k hk => ?_, ?_, ?_, fun e => by simp at e, by rw [List.length_append, List.length_singleton]; have := h.cn; omega, (hb2.trans (ba.mono hW2)).grown hg (Nat.le_trans hW2 ba.size) (fun g e => (own g e).2.1), h.hR⟩
  · obtain ⟨⟨u, hu⟩, _⟩ := own m c.symm
    rw [(lts.md o m hm).no_cell] at hu; cases hu
  · obtain ⟨⟨u, hu⟩, _⟩ := own R c.symm
    rw [hit.no_cell] at hu; cases hu
  · rw [Bool.and_eq_true, h.lf t, List.mem_append, List.mem_singleton]
    constructor
    · rintro ⟨⟨c1, c2⟩, c3⟩
      exact ⟨c1, fun c => c.elim c2 (fun e => by subst e; simp [Lit.sameKey] at c3)⟩
    · rintro ⟨c1, c2⟩
      refine ⟨⟨c1, fun c => c2 (.inl c)⟩, ?_⟩
      have : t.data.toList ≠ x.data.toList := fun e => c2 (.inr (by
        have e2 : t.data = x.data := Array.toList_inj.1 e
        cases t; cases x; exact congrArg ByteArray.mk e2))
      simp [Lit.sameKey]
      exact fun e => this (by rw [e])
  · rcases List.mem_append.1 hk with c | c
    · exact h.mem k c
    · rw [List.mem_singleton.1 c, hw]; simp
  · rw [List.nodup_append]
    exact ⟨h.nd, by simp, fun a ha b hb e => hx.2 (by rw [List.mem_singleton.1 hb] at e; rw [← e]; exact ha)⟩
  · rw [List.map_append]; exact hrow
set_option maxRecDepth 100000 in
set_option maxHeartbeats 4000000 in
theorem holds_any (h : LkAt B W T ml mh mw n s) (hc : LkC s) (hwf : (Lit.int .i64 o).wf = true) (hn : n ≤ 900000) :
    Calls Try.prog 16 #[.pointer (some ⟨T, 0, none⟩), .int .i64 o] W (HoS s o W) := by
  have t1 := h.t1
  have l1 := h.m1.look heldMap o hwf
  replace l1 : (Instr.lookup 57 (.map (some mh)) (.int .i64 o) false).run Try.prog W = .ok (mV (s.hm o)) W := l1
  obtain ⟨D0, hown, hat0, hhas, hcn⟩ := h.iter0 o
  have KM := Lib.hid (made_any h)
  have HAT := Lib.hid hat0
  have H0 := Lib.hid h
  have HC := Lib.hid hc
  have S00 : ∀ w0, It w0 (s.hm o) W.heap.size n D0 (lf0 (s.hm o) D0) (cnt0 (s.hm o) D0) → W.grownBy w0 none → HoA W w0 n W.heap.size s o D0 [] (.slice none 0 0) (lf0 (s.hm o) D0) (cnt0 (s.hm o) D0) := fun w0 hrg0 hg0 => by
    have hbg : Below W.heap.size W w0 := ⟨hg0.os, hg0.tape, hg0.output, hg0.size, fun j hj => hg0.block j hj (by simp)⟩
    exact ⟨hrg0, fun t => by rw [hhas t]; simp [Option.isSome_iff_ne_none], fun _ e => by (cases e), List.nodup_nil, World.ownsRow_nil _ _ _ _, fun _ => rfl, by simpa using hcn, hbg, Nat.le_refl _⟩
  have S01 := Lib.hid S00
  clear h hat0 hhas hcn S00 hc
  go_enter Try.func16, Try.ntmps16
  go_wp2_with fail
  refine KM.out.mono ?_
  rintro e w1 ⟨rfl, rfl⟩
  clear KM
  go_wp2_with (first
    | (at_range; refine wpList_range_u _ rfl _ 73 rfl 72 Try.underlying73 (s.hm o) n D0 rfl hown ?_; intro w0 hrg0 hg0 hs0)
    | fail)
  go_frame
  have S0 := Lib.hid (S01.out w0 hrg0 hg0)
  clear hg0 hs0 hrg0 hown S01 l1 t1
  go_loopw [5, 7] (fun v _ wr => ∃ (dn : List ByteArray) (lf : Lit → Bool) (cnt : Nat), Hid (HoA W wr n W.heap.size s o D0 dn v lf cnt)) (fun _ _ wr => wr.rangeLeft ((s.hm o).getD 0) W.heap.size)
  case atStart => exact ⟨[], _, _, S0⟩
  case round =>
    obtain ⟨dn, lf, cnt, st⟩ := hrel
    rename World => wr
    clear S0
    have hit := Lib.hid st.out.rg
    go_wp2_with (first
      | (at_next; refine wpList_next_u _ rfl _ rfl (s.hm o) W.heap.size n D0 lf cnt rfl hit.out ?_ ?_)
      | fail)
    · intro hc0 hl0
      have hall : ∀ k, k ∈ dn ↔ s.hd o k ≠ none := fun k => ⟨st.out.mem k, fun hk => Classical.byContradiction fun c => by
        have := (st.out.lf k).2 ⟨hk, c⟩
        rw [hl0] at this; cases this⟩
      have HALL := Lib.hid hall
      have hlen : (dn.map (clm s o)).length ≤ 1000000 := by have := st.out.cn; simp; omega
      have KS := Lib.hid (sort_claims st.out.row hlen)
      clear hit hl0 hall
      go_wp2_with fail
      refine KS.out.mono ?_
      rintro e w5 ⟨rfl, l', hp, hs, hr, hg⟩
      have HP : Hid (HoS s o W (.returned u5) w5) := ⟨u5, l', dn, rfl, hr, fun e => st.out.f0 (by rw [e] at hp; simpa using hp.symm), hs, hp, st.out.nd, HALL.out, st.out.bw.grown hg st.out.bw.size (fun g e => (own0 st.out.row (by decide) (fun e => st.out.f0 (by simpa using e)) g e).2.1)⟩
      clear hp hs hr hg KS st
      go_wp2
      go_ret
      exact HP.out
    · intro m x c w2 cnt1 hmo hlk hat hit1 hlt hg1 hs1 hl1 hl2 hen
      have hx := (st.out.lf x).1 hlk
      obtain ⟨w, hw⟩ := Option.ne_none_iff_exists'.1 hx.1
      have hcx : c = some w := by
        have h1 := hat (.lit (.int .i64 0))
        rw [HAT.out m hmo x, hw] at h1
        have h4 : encF (some w) = encF c := by injection h1 with h1; injection h1
        exact (encF_inj h4).symm
      subst hcx
      obtain ⟨hwq, how⟩ := HC.out.ok.h1 o x w hw
      have hck := (HC.out.ok.ck 0 x w (by decide) hwq).1
      have hb2 : Below W.heap.size W w2 := st.out.bw.grown hg1 st.out.bw.size (fun g e => by injection e with e; omega)
      have hwc := (H0.out.below hb2).wc 0 x w (by decide) hwq
      have u0 := hwc.c0
      have u1 := hwc.c1
      rw [hck] at u0
      have hrow2 : RowCl w2 W.heap.size u5 (dn.map (clm s o)) := ownsRow_of st.out.row (fun g e2 => by
        obtain ⟨⟨u, hu⟩, _⟩ := own0 st.out.row (by decide) (fun e => st.out.f0 (by simpa using e)) g e2
        refine hg1.block g (block_lt (p := ⟨g, 0, none⟩) hu) (fun c => ?_)
        injection c with c
        rw [c, st.out.rg.no_cell] at hu; cases hu)
      have hcm : clm s o x = (x, (s.con w).wr) := by unfold clm; rw [hw]
      have hlen : (dn.map (clm s o)).length ≤ 1000000 := by have := st.out.cn; simp; omega
      have HR4 : Hid (RowCl (w2.alloc (.cells #[.string x, .bool (s.con w).wr] 40)) W.heap.size u5 (dn.map (clm s o))) := ownsRow_of hrow2 (fun g e2 => by
        obtain ⟨⟨u, hu⟩, _⟩ := own0 hrow2 (by decide) (fun e => st.out.f0 (by simpa using e)) g e2
        exact ((Below.refl w2.heap.size w2).alloc (Nat.le_refl _) _).block g (block_lt (p := ⟨g, 0, none⟩) hu))
      have HB2 := Lib.hid hb2
      have HR2 := Lib.hid hrow2
      have HIT := Lib.hid hit1
      have HLK := Lib.hid hlk
      have HW := Lib.hid hw
      have HLT : Hid (cnt1 < cnt) := hlt
      have HM := Lib.hid hmo
      have HL1 := Lib.hid hl1
      have hB2 : W.heap.size ≤ (w2.alloc (.cells #[.string x, .bool (s.con w).wr] 40)).heap.size := by rw [World.size_alloc]; have := hb2.size; omega
      have hcl : (w2.alloc (.cells #[.string x, .bool (s.con w).wr] 40)).cell? ((⟨w2.heap.size, 0, none⟩ : Addr).add 0) = some (.string x) := new_cell rfl rfl
      have hcl1 : (w2.alloc (.cells #[.string x, .bool (s.con w).wr] 40)).cell? ((⟨w2.heap.size, 0, none⟩ : Addr).add 1) = some (.bool (s.con w).wr) := new_cell rfl rfl
      have HCM := Lib.hid hcm
      replace hen : (Instr.entry (.pointer (some ⟨W.heap.size, 0, none⟩))).run Try.prog w2 = .ok (.tuple #[.string x, .pointer (some ⟨w, 0, none⟩)]) w2 := hen
      clear hx hwq how hck hb2 hwc hrow2 hcm hit1 hit hg1 hs1 hlk hat hlt hmo hw hl1 hl2
      go_wp2_with (at_builtin; refine append_cl rfl _ _ rfl W.heap.size u5 (dn.map (clm s o)) ⟨w2.heap.size, 0, none⟩ (x, (s.con w).wr) 1 rfl HR4.out rfl hcl hcl1 hlen hB2 ?_)
      intro v5 w5 hr5 hg5 ho5
      rw [← HCM.out] at hr5
      have ST := Lib.hid (st.out.next H0.out HLK.out HW.out HIT.out HLT.out HB2.out HR2.out hr5 hg5)
      have IT := Lib.hid ST.out.rg
      clear hr5 hg5 ho5 hcl hcl1 HR4 HR2 HB2 HIT
      go_wp2
      go_roundw
      case rel => exact ⟨dn ++ [x], _, cnt1, ST⟩
      case measure =>
        have i1 := IT.out
        have i2 := HL1.out
        have i3 := HLT.out
        rw [HM.out] at i1 ⊢
        have i4 : w5.rangeLeft m W.heap.size = cnt1 := i1.left
        show w5.rangeLeft m W.heap.size < wr.rangeLeft m W.heap.size
        omega
end
end Go.Proofs.Ytjojempjmpaaaaa
