/-
  A ROW OF CLAIMS IS SORTED BY ITS KEYS.
-/
import Derived.Test.YtgabdlnbencglaaLkRows
import Derived.Test.YtgabdlnbencglaaLkHolds
import Derived.Test.YtgabdlnbencglaaLooseShelf
import Derived.Sort.OwnSorted
namespace Go.Proofs.Ytgabdlnbencglaa
open Go.RowKit Go.Sort
abbrev Cl := ByteArray × Bool
def cmpK (a b : ByteArray) : Int := if a.data.toList < b.data.toList then -1 else if b.data.toList < a.data.toList then 1 else 0
def cfC (x y : Cl) : Int := cmpK x.1 y.1
def encC (x : Cl) : List Value := [.string x.1, .bool x.2]
theorem ltOf_cfC (x y : Cl) : ltOf cfC x y = ltStr x.1.data.toList y.1.data.toList := by
  unfold ltOf cfC cmpK ltStr
  by_cases h : x.1.data.toList < y.1.data.toList
  · rw [if_pos h]; simp [h]
  · rw [if_neg h]
    split <;> simp [h]
theorem swo_cfC : SWO (ltOf cfC) where
  irrefl x := by rw [ltOf_cfC]; exact swo_ltStr.irrefl _
  trans x y z h1 h2 := by rw [ltOf_cfC] at *; exact swo_ltStr.trans _ _ _ h1 h2
  ntrans x y z h1 h2 := by rw [ltOf_cfC] at *; exact swo_ltStr.ntrans _ _ _ h1 h2
theorem isNaN_any (a : ByteArray) (W : World) : Calls Try.prog 60 #[.string a] W fun e W' => e = .returned (.bool false) ∧ W = W' := by
  go_enter Try.func60, Try.ntmps60
  go_wp2
  go_ret
  exact ⟨by simp, rfl⟩
theorem less_str (a b : ByteArray) : Op.bytesLess a.toList b.toList = decide (a.data.toList < b.data.toList) := by
  rw [bytesLess_eq, Lib.toList_data, Lib.toList_data]
theorem gtr_str (w : World) (t : TypeId) (a b : ByteArray) : (binOp .gtr t (.string a) (.string b)).run Try.prog w = .ok (.bool (decide (b.data.toList < a.data.toList))) w := by
  have e : binOp .gtr t (.string a) (.string b) = pure (.bool !(Op.bytesLess a.toList b.toList || a.toList == b.toList)) := by simp [binOp, Op.stringOp]
  rw [e, bytesLess_eq, Lib.toList_data, Lib.toList_data]
  have : (!(decide (a.data.toList < b.data.toList) || a.data.toList == b.data.toList)) = decide (b.data.toList < a.data.toList) := by
    by_cases h : b.data.toList < a.data.toList
    · have h1 : ¬ a.data.toList < b.data.toList := fun c => List.lt_irrefl _ (List.lt_trans h c)
      have h2 : ¬ a.data.toList = b.data.toList := fun c => by rw [c] at h; exact List.lt_irrefl _ h
      rw [decide_eq_true h, decide_eq_false h1, beq_false_of_ne h2]; rfl
    · by_cases h1 : a.data.toList < b.data.toList
      · rw [decide_eq_true h1, decide_eq_false h]; rfl
      · have h2 : a.data.toList = b.data.toList := List.le_antisymm (List.not_lt.1 h) (List.not_lt.1 h1)
        simp [h2, List.lt_irrefl]
  rw [this]; rfl
theorem compare_any (a b : ByteArray) (W : World) : Calls Try.prog 40 #[.string a, .string b] W fun e W' => e = .returned (.int .i64 (cmpK a b)) ∧ W = W' := by
  have KA := Lib.hid (isNaN_any a W)
  have KB := Lib.hid (isNaN_any b W)
  have HL := less_str a b
  have HG := gtr_str W 9 a b
  go_enter Try.func40, Try.ntmps40
  go_wp2_with fail
  refine KA.out.mono ?_
  rintro e w1 ⟨rfl, rfl⟩
  go_wp2_with fail
  refine KB.out.mono ?_
  rintro e w1 ⟨rfl, rfl⟩
  clear KA KB
  by_cases h : a.data.toList < b.data.toList
  · rw [decide_eq_true h] at HL
    go_wp2
    go_ret
    exact ⟨by unfold cmpK; simp [h], rfl⟩
  · rw [decide_eq_false h] at HL
    by_cases h2 : b.data.toList < a.data.toList
    · rw [decide_eq_true h2] at HG
      go_wp2
      go_ret
      exact ⟨by unfold cmpK; simp [h, h2], rfl⟩
    · rw [decide_eq_false h2] at HG
      go_wp2
      go_ret
      exact ⟨by unfold cmpK; simp [h, h2], rfl⟩
theorem closureC (x y : Cl) (W : World) : Calls Try.prog 39 #[.agg #[.string x.1, .bool x.2], .agg #[.string y.1, .bool y.2]] W fun e w' => e = .returned (.int .i64 (cfC x y)) ∧ ∃ q os', w' = Sort.grow (W.drewN q) os' := by
  have KC := Lib.hid (fun W => compare_any x.1 y.1 W)
  unfold cfC
  generalize cmpK x.1 y.1 = r at *
  go_enter Try.func39, Try.ntmps39
  go_wp2_with fail
  refine (KC.out _).mono ?_
  rintro e w1 ⟨rfl, rfl⟩
  clear KC
  go_wp2
  go_ret
  exact ⟨rfl, 0, _, by rw [alloc_eq_grow, alloc_eq_grow, grow_grow]; rfl⟩
/-- The cells of claims. -/
def flatC (l : List Cl) : List Value := l.flatMap encC
theorem flatC_len (l : List Cl) : (flatC l).length = l.length * 2 := by
  unfold flatC
  induction l with
  | nil => rfl
  | cons a t ih => rw [List.flatMap_cons, List.length_append, ih, List.length_cons]; show 2 + _ = _; omega
theorem flatC_get (l : List Cl) : ∀ t, t < l.length * 2 → (flatC l)[t]? = some ((encC (l[t / 2]!))[t % 2]!) := by
  unfold flatC
  induction l with
  | nil => intro t h; simp at h
  | cons a l ih =>
    intro t h
    rw [List.flatMap_cons]
    match t, h with
    | 0, _ => rfl
    | 1, _ => rfl
    | t + 2, h =>
      have e1 : (t + 2) / 2 = t / 2 + 1 := by omega
      have e2 : (t + 2) % 2 = t % 2 := by omega
      have h2 : t < l.length * 2 := by rw [List.length_cons] at h; omega
      rw [e1, e2, List.getElem?_append_right (by show 2 ≤ t + 2; omega), show t + 2 - (encC a).length = t from by show t + 2 - 2 = t; omega, ih t h2]
      have : (a :: l)[t / 2 + 1]! = l[t / 2]! := by simp
      rw [this]
theorem flatK_C (l : List Cl) : (flatK encC 2 l.toArray).toList = flatC l := by
  apply List.ext_getElem?
  intro t
  by_cases h : t < l.length * 2
  · rw [flatC_get l t h]
    have : (flatK encC 2 l.toArray).toList[t]? = some ((flatK encC 2 l.toArray)[t]!) := by
      rw [Array.getElem?_toList, Array.getElem?_eq_getElem (by simpa using h), getElem!_pos _ t (by simpa using h)]
    rw [this, get_flatK _ _ _ _ (by simpa using h)]
    simp
  · rw [List.getElem?_eq_none (by simp; omega), List.getElem?_eq_none (by rw [flatC_len]; omega)]
/-- A row of claims of the call's own. -/
def RowCl (W : World) (B : Nat) (v : Value) (l : List Cl) : Prop := W.ownsRow B 40 2 v l.length (flatC l)
theorem heap_put {w : World} {g n : Nat} {os : Array Obj} {cur : Array Value} {e : TypeId} {fr : Nat × Nat} (d : Array Value) (hb : w.heap[g]? = some (.cells cur e fr)) :
    (Sort.grow (putRow id (Sort.ahead w n) g 0 d) os).heap[g]? = some (.cells (putCells id 0 d cur) e fr) := by
  have hg : g < w.heap.size := (Array.getElem?_eq_some_iff.1 hb).1
  rw [heap_grow_old _ _ (by simpa using hg)]
  simp [putRow, mapBlock, Sort.ahead, Array.getElem?_modify, hb, onCells]
theorem grownBy_put {w : World} {g n : Nat} {os : Array Obj} (d : Array Value) : w.grownBy (Sort.grow (putRow id (Sort.ahead w n) g 0 d) os) (some g) := by
  refine ⟨rfl, rfl, rfl, by simp, fun k hk hne => ?_⟩
  rw [heap_grow_old _ _ (by simpa using hk)]
  have : g ≠ k := fun e => hne (by rw [e])
  simp [putRow, mapBlock, Sort.ahead, Array.getElem?_modify, this]
theorem take_put (cur : Array Value) (ts : List Value) (h : ts.length ≤ cur.size) : (putCells id 0 ts.toArray cur).toList.take ts.length = ts := by
  apply List.ext_getElem?
  intro j
  by_cases hj : j < ts.length
  · rw [List.getElem?_take_of_lt hj, Array.getElem?_toList]
    simp [putCells, hj, show j < cur.size by omega]
  · rw [List.getElem?_take_eq_none (by omega), List.getElem?_eq_none (by omega)]
/-- Sorted by keys. -/
def SortC (l : List Cl) : Prop := l.Pairwise fun x y => ¬ y.1.data.toList < x.1.data.toList
theorem sort_claims {W : World} {B : Nat} {v : Value} {l : List Cl} (h : RowCl W B v l) (hl : l.length ≤ 1000000) :
    Calls Try.prog 38 #[v, .func (.func 39) #[] #[]] W fun e w' => e = .returned (.tuple #[]) ∧ ∃ l', l'.Perm l ∧ SortC l' ∧ RowCl w' B v l' ∧ W.grownBy w' v.ownBlock := by
  rcases h.2 with ⟨hv, hn⟩ | ⟨g, cap, cur, hv, hbase, hb, h1, h2, h3, h4⟩
  · subst hv
    refine (AnyF.slices_SortFunc_none Try.sortFuncA none 0 _ W).mono ?_
    rintro e w' ⟨rfl, rfl⟩
    have : l = [] := List.length_eq_zero_iff.1 hn
    subst this
    exact ⟨rfl, [], List.Perm.refl _, List.Pairwise.nil, h, World.grownBy.refl _ _⟩
  · subst hv
    have hH : HoldsK encC 2 W g 0 l.toArray := by
      intro j hj
      have hj : j < l.length * 2 := by simpa using hj
      refine ⟨?_, by simp [World.frozen?, hb]⟩
      have e1 : (flatK encC 2 l.toArray)[j]! = (encC (l[j / 2]!))[j % 2]! := by rw [get_flatK _ _ _ _ (by simpa using hj)]; simp
      rw [e1]
      have e2 := flatC_get l j hj
      rw [← h4, List.getElem?_take_of_lt hj, Array.getElem?_toList] at e2
      simp only [World.cell?, hb, Nat.zero_add]
      exact e2
    have eg : ∀ args w, (callFunc 39 args).run Try.prog w = .ok (.enter 39 args) w := enters_of Try.func39 (by kernel_rfl) rfl
    have hc := AnyQ.slices_SortFunc Try.sortFuncA 2 Try.isAgg40 Try.sizeOf40 encC (fun _ => rfl) (fun x v hv => by simp [encC] at hv; rcases hv with rfl | rfl <;> rfl) cfC swo_cfC 39 #[] g 0 cap l.toArray W eg (fun _ _ _ _ x y => closureC x y _) hH (Array.getElem?_eq_some_iff.1 hb).1 (by simp; omega)
    have hc : Calls Try.prog 38 #[.slice (some ⟨g, 0, none⟩) l.length cap, .func (.func 39) #[] #[]] W _ := hc
    refine hc.mono ?_
    rintro e w' ⟨rfl, d', n, os, hp, hs, rfl⟩
    have hsz : d'.size = l.length := by simpa using hp.1
    have hpl : d'.toList.Perm l := by
      have := hp.2.2
      simp only [List.size_toArray] at this
      rw [← hsz, Array.extract_size] at this
      have e : (l.toArray.extract 0 d'.size).toList = l := by rw [hsz]; simp
      rw [e] at this; exact this
    have hll : d'.toList.length = l.length := by simpa using hsz
    have hF : (flatK encC 2 d') = (flatC d'.toList).toArray := by
      have := flatK_C d'.toList
      rw [Array.toArray_toList] at this
      rw [← this, Array.toArray_toList]
    have hw : sortWorldK encC 2 W g 0 n d' os = Sort.grow (putRow id (Sort.ahead W n) g 0 (flatC d'.toList).toArray) os := by
      unfold sortWorldK putRowK
      rw [hF]
    rw [hw]
    have hle : (flatC d'.toList).length ≤ cur.size := by
      rw [flatC_len, hll, h3]
      exact Nat.mul_le_mul_right 2 h1
    refine ⟨rfl, d'.toList, hpl, ?_, ⟨by rw [flatC_len], .inr ⟨g, cap, _, by rw [hll], hbase, heap_put _ hb, by rw [hll]; exact h1, h2, by simp [putCells, h3], ?_⟩⟩, grownBy_put _⟩
    · unfold SortC
      rw [List.pairwise_iff_getElem]
      intro i j hi hj hij
      have h5 := hs i j (Nat.zero_le _) hij (by simpa [hsz] using hj)
      rw [ltOf_cfC] at h5
      have hi' : i < d'.size := by simpa using hi
      have hj' : j < d'.size := by simpa using hj
      rw [getElem!_pos d' i hi', getElem!_pos d' j hj'] at h5
      have h6 : ¬ d'[j].1.data.toList < d'[i].1.data.toList := by simpa [ltStr] using h5
      simpa using h6
    · have := take_put cur (flatC d'.toList) hle
      rw [flatC_len] at this; exact this
end Go.Proofs.Ytgabdlnbencglaa
