/-
  ref14: CLAIMS AT A SLICE; find, free.
  ref14: Waits, first, has.
  ref14: has, free, Of.
  ref14: free.
  ref14: rows of claims; with, without.
-/
import Derived.Test.YtjojempjmpaaaaaLkm7
import Derived.Test.YtjojempjmpaaaaaLkArgs
import Derived.Test.YtjojempjmpaaaaaLkm12
import Derived.Test.YtjojempjmpaaaaaLkm9
import Derived.Test.YtjojempjmpaaaaaLkAskAny
namespace Go.Proofs.Ytjojempjmpaaaaa
open Go.RowKit
theorem str_ne14 {a b : ByteArray} (h : a ≠ b) : (a.toList == b.toList) = false := by
  rw [beq_eq_false_iff_ne]
  intro e
  rw [ByteArray.toList_eq, ByteArray.toList_eq] at e
  exact h (ByteArray.ext (Array.toList_inj.1 e))
def noWc : Wc := ⟨ByteArray.empty, false, 0⟩
/-- Claims at a slice: owner, key, whether to be written. -/
def WcsAt (W : World) (a : Option Addr) (l : List Wc) : Prop := l = [] ∨ ∃ b off, a = some ⟨b, off, none⟩ ∧ ∀ i, i < l.length →
  W.cell? ⟨b, off + i * 3, none⟩ = some (.int .i64 (l.getD i noWc).ow) ∧ W.cell? ⟨b, off + i * 3 + 1, none⟩ = some (.string (l.getD i noWc).k) ∧ W.cell? ⟨b, off + i * 3 + 2, none⟩ = some (.bool (l.getD i noWc).wr)
theorem WcsAt.below {W X : World} {a : Option Addr} {l : List Wc} (h : WcsAt W a l) (hb : Below W.heap.size W X) : WcsAt X a l := by
  rcases h with rfl | ⟨b, off, e, h⟩
  · exact .inl rfl
  · exact .inr ⟨b, off, e, fun i hi => ⟨keep_cell hb (h i hi).1, keep_cell hb (h i hi).2.1, keep_cell hb (h i hi).2.2⟩⟩
theorem WcsAt.cell {W : World} {a : Option Addr} {l : List Wc} (h : WcsAt W a l) {i : Nat} (hi : i < l.length) : ∃ b off, a = some ⟨b, off, none⟩ ∧ W.cell? ⟨b, off + i * 3, none⟩ = some (.int .i64 l[i].ow) ∧ W.cell? ⟨b, off + i * 3 + 1, none⟩ = some (.string l[i].k) ∧ W.cell? ⟨b, off + i * 3 + 2, none⟩ = some (.bool l[i].wr) := by
  rcases h with rfl | ⟨b, off, e, h⟩
  · simp at hi
  · have h1 := h i hi
    have hg : l.getD i noWc = l[i] := by rw [List.getD_eq_getElem?_getD, List.getElem?_eq_getElem hi]; rfl
    rw [hg] at h1
    exact ⟨b, off, e, h1⟩
/-- The place of an owner's claim of a key. -/
def hitB (o : Int) (k : ByteArray) (c : Wc) : Bool := decide (c.ow = o) && decide (c.k = k)
def findL (o : Int) (k : ByteArray) (l : List Wc) : Int := match l.findIdx? (hitB o k) with
  | some i => (i : Int)
  | none => -1
theorem findL_at {o : Int} {k : ByteArray} {l : List Wc} {i : Nat} (hi : i < l.length) (h0 : ∀ j, (h : j < i) → hitB o k (l[j]'(Nat.lt_trans h hi)) = false) (h1 : hitB o k l[i] = true) : findL o k l = (i : Int) := by
  unfold findL
  rw [List.findIdx?_eq_some_iff_getElem.2 ⟨hi, h1, fun j hj => by rw [h0 j hj]; decide⟩]
theorem findL_no {o : Int} {k : ByteArray} {l : List Wc} (h0 : ∀ j (h : j < l.length), hitB o k l[j] = false) : findL o k l = -1 := by
  unfold findL
  rw [List.findIdx?_eq_none_iff.2 (fun x hx => by
    obtain ⟨j, hj, rfl⟩ := List.mem_iff_getElem.1 hx
    exact h0 j hj)]
section
variable {W : World}
set_option maxRecDepth 100000 in
set_option maxHeartbeats 2000000 in
theorem find_any (a : Option Addr) (l : List Wc) (c : Nat) (o : Int) (k : ByteArray) (hl : l.length ≤ 1000000) (h : WcsAt W a l) :
    Calls Try.prog 45 #[.slice a l.length c, .int .i64 o, .string k] W fun e W' => e = .returned (.int .i64 (findL o k l)) ∧ W = W' := by
  have HA := Lib.hid h
  clear h
  have hli : (l.length : Int) ≤ 1000000 := by omega
  go_enter Try.func45, Try.ntmps45
  go_wp2
  go_loopw [7] (fun i wr => ∃ j : Nat, i = .int .i64 (j : Int) ∧ j ≤ l.length ∧ W = wr ∧ Hid (∀ j' (h : j' < l.length), j' < j → hitB o k l[j'] = false)) (fun i _ => l.length - (intOf i).toNat)
  case atStart => exact ⟨0, rfl, Nat.zero_le _, rfl, fun _ _ h => by omega⟩
  case round =>
    obtain ⟨j, rfl, hj, rfl, hn⟩ := hrel
    by_cases hlt : j < l.length
    · obtain ⟨b, off, rfl, k0, k1, k2⟩ := HA.out.cell hlt
      have HLT := Lib.hid hlt
      have HAT : Hid (hitB o k l[j] = true → findL o k l = (j : Int)) := fun h => findL_at hlt (fun i hi => hn.out i (Nat.lt_trans hi hlt) hi) h
      have HNX : Hid (hitB o k l[j] = false → ∀ j' (h : j' < l.length), j' < j + 1 → hitB o k l[j'] = false) := fun h j' h1 h2 => by
        by_cases e : j' = j
        · subst e; exact h
        · exact hn.out j' h1 (by omega)
      clear hn k2
      generalize l[j] = x at *
      obtain ⟨xk, xw, xo⟩ := x
      by_cases ho : xo = o
      · by_cases hk : xk = k
        · have hh : hitB o k ⟨xk, xw, xo⟩ = true := by unfold hitB; simp [ho, hk]
          have HF := Lib.hid (HAT.out hh)
          subst ho hk
          clear HAT HNX hh
          go_wp2
          go_ret
          exact ⟨by rw [HF.out]; rfl, rfl⟩
        · have hh : hitB o k ⟨xk, xw, xo⟩ = false := by unfold hitB; simp [hk]
          have HN := Lib.hid (HNX.out hh)
          have hne := str_ne14 hk
          subst ho
          clear HAT HNX hh
          go_wp2
          go_roundw
          case rel => exact ⟨j + 1, by go_num, HLT.out, trivial, HN⟩
          case measure => simp [intOf]; have := HLT.out; omega
      · have hh : hitB o k ⟨xk, xw, xo⟩ = false := by unfold hitB; simp [ho]
        have HN := Lib.hid (HNX.out hh)
        clear HAT HNX hh
        go_wp2
        go_roundw
        case rel => exact ⟨j + 1, by go_num, HLT.out, trivial, HN⟩
        case measure => simp [intOf]; have := HLT.out; omega
    · obtain rfl : j = l.length := by omega
      have HF := Lib.hid (findL_no (fun i h => hn.out i h h))
      clear hn
      go_wp2
      go_ret
      exact ⟨by rw [HF.out]; rfl, rfl⟩
end
end Go.Proofs.Ytjojempjmpaaaaa

namespace Go.Proofs.Ytjojempjmpaaaaa
open Go.RowKit
/-- The first place where something holds; -1: there is none. -/
def placeL (p : Wc → Bool) (l : List Wc) : Int := match l.findIdx? p with
  | some i => (i : Int)
  | none => -1
theorem placeL_at {p : Wc → Bool} {l : List Wc} {i : Nat} (hi : i < l.length) (h0 : ∀ j, (h : j < i) → p (l[j]'(Nat.lt_trans h hi)) = false) (h1 : p l[i] = true) : placeL p l = (i : Int) := by
  unfold placeL
  rw [List.findIdx?_eq_some_iff_getElem.2 ⟨hi, h1, fun j hj => by rw [h0 j hj]; decide⟩]
theorem placeL_no {p : Wc → Bool} {l : List Wc} (h0 : ∀ j (h : j < l.length), p l[j] = false) : placeL p l = -1 := by
  unfold placeL
  rw [List.findIdx?_eq_none_iff.2 (fun x hx => by
    obtain ⟨j, hj, rfl⟩ := List.mem_iff_getElem.1 hx
    exact h0 j hj)]
def isOw (o : Int) (c : Wc) : Bool := decide (c.ow = o)
def isK (k : ByteArray) (c : Wc) : Bool := decide (c.k = k)
/-- A table of two lists, as a value. -/
def tabV (aH : Option Addr) (h : List Wc) (cH : Nat) (aL : Option Addr) (l : List Wc) (cL : Nat) : Value := .agg #[.slice aH h.length cH, .slice aL l.length cL]
section
variable {W : World}
set_option maxRecDepth 100000 in
set_option maxHeartbeats 2000000 in
theorem waits14_any (aH : Option Addr) (h : List Wc) (cH : Nat) (aL : Option Addr) (l : List Wc) (cL : Nat) (o : Int) (hl : l.length ≤ 1000000) (hm : WcsAt W aL l) :
    Calls Try.prog 24 #[tabV aH h cH aL l cL, .int .i64 o] W fun e W' => e = .returned (.int .i64 (placeL (isOw o) l)) ∧ Below W.heap.size W W' := by
  have hba : Below W.heap.size W (W.alloc (.cells #[.slice aH h.length cH, .slice aL l.length cL] 29)) := (Below.refl _ _).alloc (Nat.le_refl _) _
  have HA := Lib.hid (hm.below hba)
  have t1 : (W.alloc (.cells #[.slice aH h.length cH, .slice aL l.length cL] 29)).cell? ⟨W.heap.size, 1, none⟩ = some (.slice aL l.length cL) := new_cell rfl rfl
  have HB := Lib.hid hba
  have hli : (l.length : Int) ≤ 1000000 := by omega
  clear hm hba
  unfold tabV
  go_enter Try.func24, Try.ntmps24
  go_upto_region 1 with fail
  generalize W.alloc (.cells #[.slice aH h.length cH, .slice aL l.length cL] 29) = Y at *
  generalize hC : W.heap.size = C at t1 ⊢
  have hC2 := Lib.hid hC.symm
  go_wp2
  go_loopw [5] (fun i wr => ∃ j : Nat, i = .int .i64 (j : Int) ∧ j ≤ l.length ∧ Hid (Y = wr) ∧ Hid (∀ j' (h : j' < l.length), j' < j → isOw o l[j'] = false)) (fun i _ => l.length - (intOf i).toNat)
  case atStart => exact ⟨0, rfl, Nat.zero_le _, rfl, fun _ _ h => by omega⟩
  case round =>
    obtain ⟨j, rfl, hj, hY, hn⟩ := hrel
    have hY := hY.out
    subst hY
    by_cases hlt : j < l.length
    · obtain ⟨b, off, rfl, k0, k1, k2⟩ := HA.out.cell hlt
      have HLT := Lib.hid hlt
      have HAT : Hid (isOw o l[j] = true → placeL (isOw o) l = (j : Int)) := fun h => placeL_at hlt (fun i hi => hn.out i (Nat.lt_trans hi hlt) hi) h
      have HNX : Hid (isOw o l[j] = false → ∀ j' (h : j' < l.length), j' < j + 1 → isOw o l[j'] = false) := fun h j' h1 h2 => by
        by_cases e : j' = j
        · subst e; exact h
        · exact hn.out j' h1 (by omega)
      clear hn k1 k2
      generalize l[j] = x at *
      obtain ⟨xk, xw, xo⟩ := x
      replace k0 : Y.cell? ⟨b, off + j * 3, none⟩ = some (.int .i64 xo) := k0
      by_cases ho : xo = o
      · have HF := Lib.hid (HAT.out (by unfold isOw; simp [ho]))
        subst ho
        clear HAT HNX
        go_wp2
        go_ret
        exact ⟨by rw [HF.out]; rfl, by rw [hC2.out]; exact HB.out⟩
      · have HN := Lib.hid (HNX.out (by unfold isOw; simp [ho]))
        clear HAT HNX
        go_wp2
        go_roundw
        case rel => exact ⟨j + 1, by go_num, HLT.out, trivial, HN⟩
        case measure => simp [intOf]; have := HLT.out; omega
    · obtain rfl : j = l.length := by omega
      have HF := Lib.hid (placeL_no (p := isOw o) (fun i h => hn.out i h h))
      clear hn
      go_wp2
      go_ret
      exact ⟨by rw [HF.out]; rfl, by rw [hC2.out]; exact HB.out⟩
set_option maxRecDepth 100000 in
set_option maxHeartbeats 2000000 in
theorem first14_any (aH : Option Addr) (h : List Wc) (cH : Nat) (aL : Option Addr) (l : List Wc) (cL : Nat) (k : ByteArray) (hl : l.length ≤ 1000000) (hm : WcsAt W aL l) :
    Calls Try.prog 51 #[tabV aH h cH aL l cL, .string k] W fun e W' => e = .returned (.int .i64 (placeL (isK k) l)) ∧ Below W.heap.size W W' := by
  have hba : Below W.heap.size W (W.alloc (.cells #[.slice aH h.length cH, .slice aL l.length cL] 29)) := (Below.refl _ _).alloc (Nat.le_refl _) _
  have HA := Lib.hid (hm.below hba)
  have t1 : (W.alloc (.cells #[.slice aH h.length cH, .slice aL l.length cL] 29)).cell? ⟨W.heap.size, 1, none⟩ = some (.slice aL l.length cL) := new_cell rfl rfl
  have HB := Lib.hid hba
  have hli : (l.length : Int) ≤ 1000000 := by omega
  clear hm hba
  unfold tabV
  go_enter Try.func51, Try.ntmps51
  go_upto_region 1 with fail
  generalize W.alloc (.cells #[.slice aH h.length cH, .slice aL l.length cL] 29) = Y at *
  generalize hC : W.heap.size = C at t1 ⊢
  have hC2 := Lib.hid hC.symm
  go_wp2
  go_loopw [5] (fun i wr => ∃ j : Nat, i = .int .i64 (j : Int) ∧ j ≤ l.length ∧ Hid (Y = wr) ∧ Hid (∀ j' (h : j' < l.length), j' < j → isK k l[j'] = false)) (fun i _ => l.length - (intOf i).toNat)
  case atStart => exact ⟨0, rfl, Nat.zero_le _, rfl, fun _ _ h => by omega⟩
  case round =>
    obtain ⟨j, rfl, hj, hY, hn⟩ := hrel
    have hY := hY.out
    subst hY
    by_cases hlt : j < l.length
    · obtain ⟨b, off, rfl, k0, k1, k2⟩ := HA.out.cell hlt
      have HLT := Lib.hid hlt
      have HAT : Hid (isK k l[j] = true → placeL (isK k) l = (j : Int)) := fun h => placeL_at hlt (fun i hi => hn.out i (Nat.lt_trans hi hlt) hi) h
      have HNX : Hid (isK k l[j] = false → ∀ j' (h : j' < l.length), j' < j + 1 → isK k l[j'] = false) := fun h j' h1 h2 => by
        by_cases e : j' = j
        · subst e; exact h
        · exact hn.out j' h1 (by omega)
      clear hn k0 k2
      generalize l[j] = x at *
      obtain ⟨xk, xw, xo⟩ := x
      replace k1 : Y.cell? ⟨b, off + j * 3 + 1, none⟩ = some (.string xk) := k1
      by_cases ho : xk = k
      · have HF := Lib.hid (HAT.out (by unfold isK; simp [ho]))
        subst ho
        clear HAT HNX
        go_wp2
        go_ret
        exact ⟨by rw [HF.out]; rfl, by rw [hC2.out]; exact HB.out⟩
      · have HN := Lib.hid (HNX.out (by unfold isK; simp [ho]))
        have hne := str_ne14 ho
        clear HAT HNX
        go_wp2
        go_roundw
        case rel => exact ⟨j + 1, by go_num, HLT.out, trivial, HN⟩
        case measure => simp [intOf]; have := HLT.out; omega
    · obtain rfl : j = l.length := by omega
      have HF := Lib.hid (placeL_no (p := isK k) (fun i h => hn.out i h h))
      clear hn
      go_wp2
      go_ret
      exact ⟨by rw [HF.out]; rfl, by rw [hC2.out]; exact HB.out⟩
end
end Go.Proofs.Ytjojempjmpaaaaa

namespace Go.Proofs.Ytjojempjmpaaaaa
open Go.RowKit
section
variable {W : World}
set_option maxRecDepth 100000 in
set_option maxHeartbeats 2000000 in
theorem has14_any (a : Option Addr) (l : List Int) (c : Nat) (o : Int) (hl : l.length ≤ 1000000) (h : IntsAt W a l) :
    Calls Try.prog 49 #[.slice a l.length c, .int .i64 o] W fun e W' => e = .returned (.bool (decide (o ∈ l))) ∧ W = W' := by
  have HA := Lib.hid h
  clear h
  have hli : (l.length : Int) ≤ 1000000 := by omega
  go_enter Try.func49, Try.ntmps49
  go_wp2
  go_loopw [5] (fun i wr => ∃ j : Nat, i = .int .i64 (j : Int) ∧ j ≤ l.length ∧ Hid (W = wr) ∧ Hid (∀ x, x ∈ l.take j → x ≠ o)) (fun i _ => l.length - (intOf i).toNat)
  case atStart => exact ⟨0, rfl, Nat.zero_le _, rfl, fun _ h => by simp at h⟩
  case round =>
    obtain ⟨j, rfl, hj, hY, hn⟩ := hrel
    have hY := hY.out
    subst hY
    by_cases hlt : j < l.length
    · obtain ⟨b, off, rfl, k0⟩ := HA.out.cell hlt
      have hgd : l.getD j 0 = l[j] := by rw [List.getD_eq_getElem?_getD, List.getElem?_eq_getElem hlt]; rfl
      rw [hgd] at k0
      have htk : l.take (j + 1) = l.take j ++ [l[j]] := List.take_succ_eq_append_getElem hlt
      have HLT := Lib.hid hlt
      have HM : Hid (l[j] ∈ l) := List.getElem_mem hlt
      have HNX : Hid (l[j] ≠ o → ∀ x, x ∈ l.take (j + 1) → x ≠ o) := fun h x hx => by
        rw [htk] at hx
        rcases List.mem_append.1 hx with c | c
        · exact hn.out x c
        · rw [List.mem_singleton.1 c]; exact h
      clear hgd htk hn
      generalize l[j] = x at *
      by_cases ho : x = o
      · have HF : Hid (decide (o ∈ l) = true) := decide_eq_true (ho ▸ HM.out)
        subst ho
        clear HNX
        go_wp2
        go_ret
        exact ⟨by rw [HF.out]; rfl, rfl⟩
      · have HN := Lib.hid (HNX.out ho)
        clear HNX
        go_wp2
        go_roundw
        case rel => exact ⟨j + 1, by go_num, HLT.out, trivial, HN⟩
        case measure => simp [intOf]; have := HLT.out; omega
    · obtain rfl : j = l.length := by omega
      have HF : Hid (decide (o ∈ l) = false) := decide_eq_false (fun h => hn.out o (by rw [List.take_length]; exact h) rfl)
      clear hn
      go_wp2
      go_ret
      exact ⟨by rw [HF.out]; rfl, rfl⟩
set_option maxRecDepth 100000 in
set_option maxHeartbeats 2000000 in
theorem of14_any (aH : Option Addr) (h : List Wc) (cH : Nat) (aL : Option Addr) (l : List Wc) (cL : Nat) (k : ByteArray) (hl : l.length ≤ 100000) (hm : WcsAt W aL l) :
    Calls Try.prog 25 #[tabV aH h cH aL l cL, .string k] W fun e W' => ∃ v, e = .returned v ∧ RowI W' W.heap.size v ((l.filter (isK k)).map (·.ow)) ∧ Below W.heap.size W W' := by
  have hba : Below W.heap.size W (W.alloc (.cells #[.slice aH h.length cH, .slice aL l.length cL] 29)) := (Below.refl _ _).alloc (Nat.le_refl _) _
  have HA := Lib.hid (hm.below hba)
  have t1 : (W.alloc (.cells #[.slice aH h.length cH, .slice aL l.length cL] 29)).cell? ⟨W.heap.size, 1, none⟩ = some (.slice aL l.length cL) := new_cell rfl rfl
  have HB := Lib.hid hba
  have hli : (l.length : Int) ≤ 100000 := by omega
  clear hm hba
  unfold tabV
  go_enter Try.func25, Try.ntmps25
  go_upto_region 1 with fail
  generalize W.alloc (.cells #[.slice aH h.length cH, .slice aL l.length cL] 29) = Y at *
  have HT : Hid (∀ X, Below Y.heap.size Y X → X.cell? ⟨W.heap.size, 1, none⟩ = some (.slice aL l.length cL)) := fun X hX => keep_cell hX t1
  generalize hC : W.heap.size = C at t1 HT ⊢
  have hC2 := Lib.hid hC.symm
  have S0 : Hid (LnW Y Y (.slice none 0 0) (((l.take 0).filter (isK k)).map (·.ow))) := ⟨World.ownsRow_nil _ _ _ _, Below.refl _ _, fun _ => rfl⟩
  clear t1
  go_wp2
  go_loopw [5, 6] (fun v i wr => ∃ j : Nat, i = .int .i64 (j : Int) ∧ j ≤ l.length ∧ Hid (LnW Y wr v (((l.take j).filter (isK k)).map (·.ow)))) (fun _ i _ => l.length - (intOf i).toNat)
  case atStart => exact ⟨0, rfl, Nat.zero_le _, S0⟩
  case round =>
    obtain ⟨j, rfl, hj, st⟩ := hrel
    rename World => wr
    clear S0
    have t1 := HT.out wr st.out.bw
    by_cases hlt : j < l.length
    · obtain ⟨b, off, rfl, k0, k1, k2⟩ := (HA.out.below st.out.bw).cell hlt
      have htk : l.take (j + 1) = l.take j ++ [l[j]] := List.take_succ_eq_append_getElem hlt
      have HLT := Lib.hid hlt
      have HT2 := Lib.hid htk
      have hlen : (((l.take j).filter (isK k)).map (·.ow)).length ≤ 1000000 := by
        rw [List.length_map]
        have h1 := List.length_filter_le (isK k) (l.take j)
        rw [List.length_take] at h1
        omega
      clear htk k2
      generalize l[j] = x at *
      obtain ⟨xk, xw, xo⟩ := x
      replace k0 : wr.cell? ⟨b, off + j * 3, none⟩ = some (.int .i64 xo) := k0
      replace k1 : wr.cell? ⟨b, off + j * 3 + 1, none⟩ = some (.string xk) := k1
      by_cases ho : xk = k
      · have hik : isK k ⟨xk, xw, xo⟩ = true := by unfold isK; simp [ho]
        have HE : Hid (((l.take (j + 1)).filter (isK k)).map (·.ow) = ((l.take j).filter (isK k)).map (·.ow) ++ [xo]) := by rw [HT2.out, List.filter_append, List.map_append, List.filter_cons, if_pos hik]; rfl
        have hba : Below wr.heap.size wr (wr.alloc (.cells #[.int .i64 xo] 3)) := (Below.refl _ _).alloc (Nat.le_refl _) _
        have HRI := Lib.hid (st.out.row.below hba)
        have HBB := Lib.hid (st.out.bw.trans (hba.mono st.out.bw.size))
        have hcl : (wr.alloc (.cells #[.int .i64 xo] 3)).cell? ((⟨wr.heap.size, 0, none⟩ : Addr).add 0) = some (.int .i64 xo) := new_cell rfl rfl
        have hs2 : Y.heap.size ≤ (wr.alloc (.cells #[.int .i64 xo] 3)).heap.size := HBB.out.size
        subst ho
        clear hba hik
        go_wp2_with (at_builtin; refine append_i2 rfl _ _ rfl Y.heap.size u5 (((l.take j).filter (isK xk)).map (·.ow)) ⟨wr.heap.size, 0, none⟩ xo 1 rfl HRI.out rfl hcl hlen hs2 ?_)
        intro v8 w8 hr8 hg8 ho8
        have hr9 : RowI w8 Y.heap.size v8 (((l.take (j + 1)).filter (isK xk)).map (·.ow)) := by rw [HE.out]; exact hr8
        have ST : Hid (LnW Y w8 v8 (((l.take (j + 1)).filter (isK xk)).map (·.ow))) := ⟨hr9, HBB.out.grown hg8 hs2 (fun g hg => (World.ownsRow.lt HRI.out g hg).1), fun e => by rw [HE.out] at e; simp at e⟩
        clear hr8 hr9 hg8 ho8 HRI HBB hcl st hs2 hlen HE t1
        go_wp2
        go_roundw
        case rel => exact ⟨j + 1, by go_num, HLT.out, ST⟩
        case measure => simp [intOf]; have := HLT.out; omega
      · have hik : isK k ⟨xk, xw, xo⟩ = false := by unfold isK; simp [ho]
        have HE : ((l.take (j + 1)).filter (isK k)).map (·.ow) = ((l.take j).filter (isK k)).map (·.ow) := by rw [HT2.out, List.filter_append, List.map_append, List.filter_cons, if_neg (by rw [hik]; decide)]; simp
        have ST : Hid (LnW Y wr u5 (((l.take (j + 1)).filter (isK k)).map (·.ow))) := by rw [HE]; exact st.out
        have hne := str_ne14 ho
        clear HE st hik
        go_wp2
        go_roundw
        case rel => exact ⟨j + 1, by go_num, HLT.out, ST⟩
        case measure => simp [intOf]; have := HLT.out; omega
    · obtain rfl : j = l.length := by omega
      have h1 := st.out
      rw [List.take_length] at h1
      have HP := Lib.hid (rowI_mono h1.row HB.out.size)
      have HQ := Lib.hid (HB.out.trans (h1.bw.mono HB.out.size))
      clear h1 st
      go_wp2
      go_ret
      exact ⟨u5, rfl, by first | exact HP.out | (rw [hC2.out]; exact HP.out), by first | exact HQ.out | (rw [hC2.out]; exact HQ.out)⟩
end
end Go.Proofs.Ytjojempjmpaaaaa

namespace Go.Proofs.Ytjojempjmpaaaaa
open Go.RowKit
def barB (c h : Wc) : Bool := decide (h.k = c.k) && clash c h
/-- Does a claim go together with all holders of its key? -/
def freeR (l : List Wc) (c : Wc) : Bool := !(l.any (barB c))
section
variable {W : World}
set_option maxRecDepth 100000 in
set_option maxHeartbeats 4000000 in
theorem free14_any (aH : Option Addr) (h : List Wc) (cH : Nat) (aL : Option Addr) (l : List Wc) (cL : Nat) (c : Wc) (hl : h.length ≤ 1000000) (hm : WcsAt W aH h) :
    Calls Try.prog 46 #[tabV aH h cH aL l cL, .agg #[.int .i64 c.ow, .string c.k, .bool c.wr]] W fun e W' => e = .returned (.bool (freeR h c)) ∧ Below W.heap.size W W' := by
  obtain ⟨ck, cw, co⟩ := c
  have hb1 : Below W.heap.size W (W.alloc (.cells #[.slice aH h.length cH, .slice aL l.length cL] 29)) := (Below.refl _ _).alloc (Nat.le_refl _) _
  have t0 : (W.alloc (.cells #[.slice aH h.length cH, .slice aL l.length cL] 29)).cell? ⟨W.heap.size, 0, none⟩ = some (.slice aH h.length cH) := new_cell rfl rfl
  have hs1 : (W.alloc (.cells #[.slice aH h.length cH, .slice aL l.length cL] 29)).heap.size = W.heap.size + 1 := World.size_alloc _ _
  have hA1 := hm.below hb1
  unfold tabV
  go_enter Try.func46, Try.ntmps46
  go_upto_region 1 with fail
  generalize W.alloc (.cells #[.slice aH h.length cH, .slice aL l.length cL] 29) = Y1 at *
  have hb2 : Below Y1.heap.size Y1 (Y1.alloc (.cells #[.int .i64 co, .string ck, .bool cw] 67)) := (Below.refl _ _).alloc (Nat.le_refl _) _
  have c0 : (Y1.alloc (.cells #[.int .i64 co, .string ck, .bool cw] 67)).cell? ⟨W.heap.size + 1, 0, none⟩ = some (.int .i64 co) := new_cell (by rw [hs1]) rfl
  have c1 : (Y1.alloc (.cells #[.int .i64 co, .string ck, .bool cw] 67)).cell? ⟨W.heap.size + 1, 1, none⟩ = some (.string ck) := new_cell (by rw [hs1]) rfl
  have c2 : (Y1.alloc (.cells #[.int .i64 co, .string ck, .bool cw] 67)).cell? ⟨W.heap.size + 1, 2, none⟩ = some (.bool cw) := new_cell (by rw [hs1]) rfl
  have HB := Lib.hid (hb1.trans (hb2.mono (by omega)))
  have hA2 := hA1.below hb2
  have HF : Hid (∀ X, Below (Y1.alloc (.cells #[.int .i64 co, .string ck, .bool cw] 67)).heap.size (Y1.alloc (.cells #[.int .i64 co, .string ck, .bool cw] 67)) X → X.cell? ⟨W.heap.size, 0, none⟩ = some (.slice aH h.length cH) ∧ X.cell? ⟨W.heap.size + 1, 0, none⟩ = some (.int .i64 co) ∧ X.cell? ⟨W.heap.size + 1, 1, none⟩ = some (.string ck) ∧ X.cell? ⟨W.heap.size + 1, 2, none⟩ = some (.bool cw)) := fun X hX => ⟨keep_cell hX (keep_cell hb2 t0), keep_cell hX c0, keep_cell hX c1, keep_cell hX c2⟩
  clear hm hb1 hb2 t0 c0 c1 c2 hA1 hs1
  generalize Y1.alloc (.cells #[.int .i64 co, .string ck, .bool cw] 67) = Y at *
  have HA := Lib.hid hA2
  clear hA2
  have hli : (h.length : Int) ≤ 1000000 := by omega
  have S0 : Hid (Below Y.heap.size Y Y) := Below.refl _ _
  have t0 := (HF.out Y S0.out).1
  go_wp2
  go_loopw [5] (fun i wr => ∃ j : Nat, i = .int .i64 (j : Int) ∧ j ≤ h.length ∧ Hid (Below Y.heap.size Y wr) ∧ Hid ((h.take j).any (barB ⟨ck, cw, co⟩) = false)) (fun i _ => h.length - (intOf i).toNat)
  case atStart => exact ⟨0, rfl, Nat.zero_le _, S0, by rw [List.take_zero]; rfl⟩
  case round =>
    obtain ⟨j, rfl, hj, hb, hn⟩ := hrel
    rename World => wr
    clear S0 t0
    obtain ⟨t0, _, _, _⟩ := HF.out wr hb.out
    by_cases hlt : j < h.length
    · obtain ⟨b, off, rfl, k0, k1, k2⟩ := (HA.out.below hb.out).cell hlt
      have HLT := Lib.hid hlt
      have htk : h.take (j + 1) = h.take j ++ [h[j]] := List.take_succ_eq_append_getElem hlt
      have HT2 := Lib.hid htk
      have HM : Hid (h[j] ∈ h) := List.getElem_mem hlt
      clear htk
      generalize h[j] = x at *
      obtain ⟨xk, xw, xo⟩ := x
      replace k0 : wr.cell? ⟨b, off + j * 3, none⟩ = some (.int .i64 xo) := k0
      replace k1 : wr.cell? ⟨b, off + j * 3 + 1, none⟩ = some (.string xk) := k1
      replace k2 : wr.cell? ⟨b, off + j * 3 + 2, none⟩ = some (.bool xw) := k2
      have HNO : Hid (barB ⟨ck, cw, co⟩ ⟨xk, xw, xo⟩ = false → (h.take (j + 1)).any (barB ⟨ck, cw, co⟩) = false) := fun hx => by rw [HT2.out, List.any_append, hn.out, List.any_cons, hx]; rfl
      have HYE : Hid (barB ⟨ck, cw, co⟩ ⟨xk, xw, xo⟩ = true → freeR h ⟨ck, cw, co⟩ = false) := fun hx => by unfold freeR; rw [List.any_eq_true.2 ⟨_, HM.out, hx⟩]; rfl
      have hba : Below wr.heap.size wr (wr.alloc (.cells #[.int .i64 xo, .string xk, .bool xw] 67)) := (Below.refl _ _).alloc (Nat.le_refl _) _
      have HB5 := Lib.hid (hb.out.trans (hba.mono hb.out.size))
      have x0 : (wr.alloc (.cells #[.int .i64 xo, .string xk, .bool xw] 67)).cell? ⟨wr.heap.size, 0, none⟩ = some (.int .i64 xo) := new_cell rfl rfl
      have x1 : (wr.alloc (.cells #[.int .i64 xo, .string xk, .bool xw] 67)).cell? ⟨wr.heap.size, 1, none⟩ = some (.string xk) := new_cell rfl rfl
      have x2 : (wr.alloc (.cells #[.int .i64 xo, .string xk, .bool xw] 67)).cell? ⟨wr.heap.size, 2, none⟩ = some (.bool xw) := new_cell rfl rfl
      clear hn hba
      go_upto_region 5 with fail
      obtain ⟨_, c0, c1, c2⟩ := HF.out _ HB5.out
      generalize wr.alloc (.cells #[.int .i64 xo, .string xk, .bool xw] 67) = wy at *
      generalize hD : wr.heap.size = Dk at x0 x1 x2 ⊢
      clear k0 k1 k2 t0
      have HBW := Lib.hid (HB.out.trans (HB5.out.mono HB.out.size))
      by_cases hk : xk = ck
      · by_cases ho : xo = co
        · have HN := Lib.hid (HNO.out (by unfold barB clash; simp [ho]))
          subst hk ho
          clear HNO HYE hb
          go_wp2
          go_roundw
          case rel => exact ⟨j + 1, by go_num, HLT.out, HB5, HN⟩
          case measure => simp [intOf]; have := HLT.out; omega
        · cases xw with
          | true =>
            have HF2 := Lib.hid (HYE.out (by unfold barB clash; simp [hk, ho]))
            subst hk
            clear HNO HYE hb
            go_wp2
            go_ret
            exact ⟨by rw [HF2.out]; rfl, HBW.out⟩
          | false =>
            cases cw with
            | true =>
              have HF2 := Lib.hid (HYE.out (by unfold barB clash; simp [hk, ho]))
              subst hk
              clear HNO HYE hb
              go_wp2
              go_ret
              exact ⟨by rw [HF2.out]; rfl, HBW.out⟩
            | false =>
              have HN := Lib.hid (HNO.out (by unfold barB clash; simp))
              subst hk
              clear HNO HYE hb
              go_wp2
              go_roundw
              case rel => exact ⟨j + 1, by go_num, HLT.out, HB5, HN⟩
              case measure => simp [intOf]; have := HLT.out; omega
      · have HN := Lib.hid (HNO.out (by unfold barB clash; simp [hk]))
        have hne := str_ne14 hk
        clear HNO HYE hb
        go_wp2
        go_roundw
        case rel => exact ⟨j + 1, by go_num, HLT.out, HB5, HN⟩
        case measure => simp [intOf]; have := HLT.out; omega
    · obtain rfl : j = h.length := by omega
      have h1 := hn.out
      rw [List.take_length] at h1
      have HFR : Hid (freeR h ⟨ck, cw, co⟩ = true) := by
        show freeR h ⟨ck, cw, co⟩ = true
        unfold freeR; rw [h1]; rfl
      have HBW := Lib.hid (HB.out.trans (hb.out.mono HB.out.size))
      clear hn h1 hb
      go_wp2
      go_ret
      exact ⟨by rw [HFR.out]; rfl, HBW.out⟩
end
end Go.Proofs.Ytjojempjmpaaaaa

namespace Go.Proofs.Ytjojempjmpaaaaa
open Go.RowKit
def encW (c : Wc) : List Value := [.int .i64 c.ow, .string c.k, .bool c.wr]
def flatW (l : List Wc) : List Value := l.flatMap encW
theorem flatW_append (a b : List Wc) : flatW (a ++ b) = flatW a ++ flatW b := by unfold flatW; rw [List.flatMap_append]
theorem flatW_len (l : List Wc) : (flatW l).length = l.length * 3 := by
  unfold flatW
  induction l with
  | nil => rfl
  | cons a t ih => rw [List.flatMap_cons, List.length_append, ih, List.length_cons]; show 3 + _ = _; omega
theorem flatW_one (l : List Wc) : ∀ u ∈ flatW l, u.oneCell' = true := fun u hu => by
  obtain ⟨p, _, hp⟩ := List.mem_flatMap.1 hu
  simp [encW] at hp
  rcases hp with rfl | rfl | rfl <;> rfl
theorem flatW_get (l : List Wc) : ∀ i, i < l.length → (flatW l)[i * 3]? = some (.int .i64 (l.getD i noWc).ow) ∧ (flatW l)[i * 3 + 1]? = some (.string (l.getD i noWc).k) ∧ (flatW l)[i * 3 + 2]? = some (.bool (l.getD i noWc).wr) := by
  unfold flatW
  induction l with
  | nil => intro i h; simp at h
  | cons a l ih =>
    intro i h
    rw [List.flatMap_cons]
    match i, h with
    | 0, _ => exact ⟨rfl, rfl, rfl⟩
    | i + 1, h =>
      have h2 : i < l.length := by rw [List.length_cons] at h; omega
      obtain ⟨e1, e2, e3⟩ := ih i h2
      have l3 : (encW a).length = 3 := rfl
      rw [List.getElem?_append_right (by rw [l3]; omega), List.getElem?_append_right (by rw [l3]; omega), List.getElem?_append_right (by rw [l3]; omega), l3, show (i + 1) * 3 - 3 = i * 3 by omega, show (i + 1) * 3 + 1 - 3 = i * 3 + 1 by omega, show (i + 1) * 3 + 2 - 3 = i * 3 + 2 by omega]
      exact ⟨e1, e2, e3⟩
/-- A row of claims of the call's own. -/
def RowW (W : World) (B : Nat) (v : Value) (l : List Wc) : Prop := W.ownsRow B 67 3 v l.length (flatW l)
theorem infoW : (Try.prog.info? 67).map (fun i => (i.zero, i.size, i.bytes)) = some (some (.agg #[.int .i64 0, .string ⟨#[]⟩, .bool false]), 3, 32) := by kernel_rfl
theorem RowW.at {W : World} {B : Nat} {v : Value} {l : List Wc} (h : RowW W B v l) : ∃ a c, v = .slice a l.length c ∧ l.length ≤ c ∧ ∀ X : World, (∀ g, v.ownBlock = some g → X.heap[g]? = W.heap[g]?) → WcsAt X a l := by
  rcases h.2 with ⟨hv, hn⟩ | ⟨g, cap, cur, hv, _, _, hc, _⟩
  · exact ⟨none, 0, by rw [hv, hn], by omega, fun _ _ => .inl (List.length_eq_zero_iff.1 hn)⟩
  · refine ⟨_, cap, hv, hc, fun X hX => .inr ⟨g, 0, rfl, fun i hi => ?_⟩⟩
    have h' : W.ownsRow B 67 3 (.slice (some ⟨g, 0, none⟩) l.length cap) l.length (flatW l) := hv ▸ h
    obtain ⟨e1, e2, e3⟩ := flatW_get l i hi
    have hx := hX g (by rw [hv]; rfl)
    rw [Nat.zero_add, World.cell?_of_block (a := ⟨g, i * 3, none⟩) hx, World.cell?_of_block (a := ⟨g, i * 3 + 1, none⟩) hx, World.cell?_of_block (a := ⟨g, i * 3 + 2, none⟩) hx, World.ownsRow.cellAt h' _ (by omega), World.ownsRow.cellAt h' _ (by omega), World.ownsRow.cellAt h' _ (by omega)]
    exact ⟨e1, e2, e3⟩
theorem wcs_src {w : World} {b off : Nat} {l : List Wc} (h : WcsAt w (some ⟨b, off, none⟩) l) : ∀ j u, (flatW l)[j]? = some u → w.cell? ((⟨b, off, none⟩ : Addr).add j) = some u := fun j u hj => by
  have hlt : j < l.length * 3 := by rw [← flatW_len]; exact (List.getElem?_eq_some_iff.1 hj).1
  rcases h with rfl | ⟨b2, off2, e, h⟩
  · simp at hlt
  · injection e with e
    injection e with e1 e2
    subst e1 e2
    obtain ⟨k0, k1, k2⟩ := h (j / 3) (by omega)
    obtain ⟨g0, g1, g2⟩ := flatW_get l (j / 3) (by omega)
    rw [show (⟨b, off, none⟩ : Addr).add j = ⟨b, off + j, none⟩ by unfold Addr.add; split <;> simp_all]
    have hm : j % 3 = 0 ∨ j % 3 = 1 ∨ j % 3 = 2 := by omega
    rcases hm with hm | hm | hm
    · have e : j = j / 3 * 3 := by omega
      rw [e] at hj ⊢
      rw [g0] at hj
      rw [← hj]; exact k0
    · have e : j = j / 3 * 3 + 1 := by omega
      rw [e] at hj ⊢
      rw [g1] at hj
      rw [← hj, ← Nat.add_assoc]; exact k1
    · have e : j = j / 3 * 3 + 2 := by omega
      rw [e] at hj ⊢
      rw [g2] at hj
      rw [← hj, ← Nat.add_assoc]; exact k2
/-- append of claims to claims. -/
theorem append_w {w : World} {ops : Array Oper} {rest : List Oper} {o : Oper} {a : Act} {Q : Exit → Act → World → Prop} (hgd : o.guard = none) (s x : Operand)
    (ho : o.op = .call { callee := .builtin .append, args := #[s, x], argTypes := #[27, 27] })
    (B : Nat) (v vx : Value) (l m : List Wc) (hs : a.eval s = v) (hown : RowW w B v l) (hx : a.eval x = vx) (hsrc : (vx = .slice none 0 0 ∧ m = []) ∨ ∃ b off c, vx = .slice (some ⟨b, off, none⟩) m.length c ∧ WcsAt w (some ⟨b, off, none⟩) m) (h10 : l.length + m.length ≤ 1000000) (hB : B ≤ w.heap.size)
    (h : ∀ v' w', RowW w' B v' (l ++ m) → w.grownBy w' v.ownBlock → (v'.ownBlock = v.ownBlock ∨ v'.ownBlock = some w.heap.size) → wpList Try.prog ops Q rest (a.put o.dst v') w') :
    wpList Try.prog ops Q (o :: rest) a w := by
  obtain ⟨i0, hi, hzz⟩ := Option.map_eq_some_iff.1 infoW
  simp only [Prod.mk.injEq] at hzz
  obtain ⟨hz0, hz1, hz2⟩ := hzz
  refine append_rows hgd s x 27 ho B 67 i0 _ 3 32 Try.underlying27 hi hz0 hz1 hz2 rfl (by decide) v l.length (flatW l) hs hown vx m.length (flatW m) hx ?_ (by unfold maxLen; omega) (by omega) hB (fun v' w' h1 h2 _ h4 => h v' w' ?_ h2 h4)
  · rcases hsrc with ⟨rfl, rfl⟩ | ⟨b, off, c, rfl, hm⟩
    · exact .inl ⟨rfl, rfl, rfl⟩
    · exact .inr ⟨_, c, rfl, flatW_len m, wcs_src hm, flatW_one m⟩
  · unfold RowW
    rw [List.length_append, flatW_append]; exact h1
theorem WcsAt.take {W : World} {b off : Nat} {l : List Wc} (h : WcsAt W (some ⟨b, off, none⟩) l) (n : Nat) : WcsAt W (some ⟨b, off, none⟩) (l.take n) := by
  rcases h with rfl | ⟨b2, off2, e, h⟩
  · left; simp
  · refine .inr ⟨b2, off2, e, fun i hi => ?_⟩
    rw [List.length_take] at hi
    have := h i (by omega)
    have e : (l.take n).getD i noWc = l.getD i noWc := by
      rw [List.getD_eq_getElem?_getD, List.getD_eq_getElem?_getD, List.getElem?_take_of_lt (by omega)]
    rw [e]; exact this
theorem WcsAt.drop {W : World} {b off : Nat} {l : List Wc} (h : WcsAt W (some ⟨b, off, none⟩) l) (n : Nat) : WcsAt W (some ⟨b, off + n * 3, none⟩) (l.drop n) := by
  rcases h with rfl | ⟨b2, off2, e, h⟩
  · left; simp
  · injection e with e
    injection e with e1 e2
    subst e1 e2
    refine .inr ⟨b, off + n * 3, rfl, fun i hi => ?_⟩
    rw [List.length_drop] at hi
    have := h (n + i) (by omega)
    have e : (l.drop n).getD i noWc = l.getD (n + i) noWc := by
      rw [List.getD_eq_getElem?_getD, List.getD_eq_getElem?_getD, List.getElem?_drop]
    rw [e, show off + n * 3 + i * 3 = off + (n + i) * 3 by omega]; exact this
end Go.Proofs.Ytjojempjmpaaaaa
