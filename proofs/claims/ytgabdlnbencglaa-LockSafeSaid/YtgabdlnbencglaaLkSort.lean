/-
  A TABLE OF LOCKS: slices.Sort and slices.Compact of a row of texts.
-/
import Derived.Test.YtgabdlnbencglaaLkGo
import Derived.Lib.SlicesCompact
import Derived.Sort.OwnSorted
namespace Go.Proofs.Ytgabdlnbencglaa
open Go.RowKit Go.Sort
def lb (l : List ByteArray) : List (List UInt8) := l.map fun s => s.data.toList
/-- A slice that reads as these texts. -/
def KeysAt (W : World) (a : Option Addr) (l : List ByteArray) : Prop := l = [] ∨ ∃ b off, a = some ⟨b, off, none⟩ ∧ ∀ i, i < l.length → W.cell? ⟨b, off + i, none⟩ = some (.string (l.getD i ByteArray.empty))
def ofB (l : List (List UInt8)) : List ByteArray := l.map (fun x => ⟨x.toArray⟩)
theorem lb_ofB (l : List (List UInt8)) : lb (ofB l) = l := by unfold lb ofB; simp [Function.comp_def]
theorem ofB_len (l : List (List UInt8)) : (ofB l).length = l.length := by unfold ofB; simp
theorem lb_len (l : List ByteArray) : (lb l).length = l.length := by unfold lb; simp
theorem str_enc (ts : List ByteArray) : ts.map Value.string = (lb ts).map encStr := by
  unfold lb
  rw [List.map_map]
  rfl
theorem enc_str (l : List (List UInt8)) : l.map encStr = (ofB l).map Value.string := by unfold ofB; rw [List.map_map]; rfl
theorem sort_row {W : World} {B : Nat} {v : Value} {ts : List ByteArray} (h : RowS W B v ts) (hl : ts.length ≤ 1000000) :
    Calls Try.prog 41 #[v] W fun e w' => e = .returned (.tuple #[]) ∧ RowS w' B v (ofB ((lb ts).mergeSort fun x y => decide (x ≤ y))) ∧ W.grownBy w' v.ownBlock := by
  rcases h.2 with ⟨hv, hn⟩ | ⟨g, cap, cur, hv, hbase, hb, h1, h2, h3, h4⟩
  · subst hv
    refine (Try.slices_Sort_string_none none 0 W).mono ?_
    rintro e w' ⟨rfl, rfl⟩
    have : ts = [] := List.length_eq_zero_iff.1 hn
    subst this
    exact ⟨rfl, by simpa [lb, ofB] using h, World.grownBy.refl _ _⟩
  · subst hv
    have hlb := lb_len ts
    have h4' : cur.toList.take (lb ts).length = (lb ts).map encStr := by
      rw [hlb, ← str_enc, ← h4, Nat.mul_one]
    have hc := Try.slices_Sort_string g 0 cap (lb ts) W (holds_of_block hb h4') (Array.getElem?_eq_some_iff.1 hb).1 (by omega)
    rw [hlb] at hc
    refine hc.mono ?_
    rintro e w' ⟨rfl, n, os, rfl⟩
    have hq : ((lb ts).mergeSort fun x y => decide (x ≤ y)).length = ts.length := by rw [List.length_mergeSort, hlb]
    have hr := ownsRow_sorted (n := n) (os := os) (ts := (lb ts).mergeSort fun x y => decide (x ≤ y)) (ss := lb ts) (by rw [List.length_mergeSort]) hbase hb (by omega) h2 (by omega)
    rw [hlb, enc_str] at hr
    refine ⟨rfl, ?_, grownBy_sorted _⟩
    unfold RowS
    rw [ofB_len, hq]
    exact hr
theorem compact_row {W : World} {B : Nat} {v : Value} {zs : List ByteArray} (h : RowS W B v zs) (hl : zs.length ≤ 1000000) :
    Calls Try.prog 42 #[v] W fun e w' => ∃ a c, e = .returned (.slice a (ofB (Lib.compact (lb zs))).length c) ∧ KeysAt w' a (ofB (Lib.compact (lb zs))) ∧ W.grownBy w' v.ownBlock ∧ (∀ p, a = some p → v.ownBlock = some p.block) := by
  rcases h.2 with ⟨hv, hn⟩ | ⟨g, cap, cur, hv, hbase, hb, h1, h2, h3, h4⟩
  · subst hv
    have : zs = [] := List.length_eq_zero_iff.1 hn
    subst this
    refine (Try.slices_Compact_string_empty none 0 W).mono ?_
    rintro e w' ⟨rfl, rfl⟩
    exact ⟨none, 0, by simp [lb, ofB, Lib.compact, Lib.compactUpTo], .inl (by simp [lb, ofB, Lib.compact, Lib.compactUpTo]), World.grownBy.refl _ _, fun p e => by cases e⟩
  · subst hv
    have hlb := lb_len zs
    have h4' : cur.toList.take (lb zs).length = (lb zs).map encStr := by
      rw [hlb, ← str_enc, ← h4, Nat.mul_one]
    have hc := Try.slices_Compact_string g 0 cap (lb zs) W (holds_of_block hb h4') (by omega) (by omega)
    rw [hlb] at hc
    refine hc.mono ?_
    rintro e w' ⟨rfl, n, rfl⟩
    have hcl : (Lib.compact (lb zs)).length ≤ zs.length := by
      rw [← hlb]
      show (Lib.compactUpTo (lb zs).toArray (lb zs).length).length ≤ _
      unfold Lib.compactUpTo
      rw [List.length_map]
      refine Nat.le_trans (List.length_filter_le _ _) ?_
      simp
    generalize Lib.compact (lb zs) = cz at *
    have hr := ownsRow_sorted (n := n) (os := #[]) (ts := cz ++ List.replicate (zs.length - cz.length) []) (ss := lb zs) (by rw [List.length_append, List.length_replicate, hlb]; omega) hbase hb (by omega) h2 (by omega)
    have hg := grownBy_sorted (w := W) (g := g) (n := n) (os := #[]) (cz ++ List.replicate (zs.length - cz.length) []).toArray
    rw [grow_empty] at hr hg
    refine ⟨_, _, by rw [ofB_len], ?_, hg, fun p e => by injection e with e; rw [← e]; rfl⟩
    refine .inr ⟨g, 0, rfl, fun i hi => ?_⟩
    rw [ofB_len] at hi
    rw [hlb] at hr
    rw [Nat.zero_add, World.ownsRow.cellAt hr i (by omega), List.getElem?_map, List.getElem?_append_left hi]
    unfold ofB
    rw [List.getD_eq_getElem?_getD, List.getElem?_map, List.getElem?_eq_getElem hi]
    rfl
theorem ofB_lb (l : List ByteArray) : ofB (lb l) = l := by unfold lb ofB; simp [Function.comp_def]
theorem sort_one {W : World} {B : Nat} {v : Value} {k : ByteArray} (h : RowS W B v [k]) : Calls Try.prog 41 #[v] W fun e w' => e = .returned (.tuple #[]) ∧ RowS w' B v [k] ∧ W.grownBy w' v.ownBlock := by
  have h1 := sort_row h (by simp)
  rw [show (lb [k]).mergeSort (fun x y => decide (x ≤ y)) = lb [k] by unfold lb; simp, ofB_lb] at h1
  exact h1
theorem compact_one {W : World} {B : Nat} {v : Value} {k : ByteArray} (h : RowS W B v [k]) : Calls Try.prog 42 #[v] W fun e w' => ∃ b off c, e = .returned (.slice (some ⟨b, off, none⟩) 1 c) ∧ w'.cell? ⟨b, off, none⟩ = some (.string k) ∧ W.grownBy w' v.ownBlock := by
  have h1 := compact_row h (by simp)
  have e1 : Lib.compact (lb [k]) = lb [k] := by unfold lb; rfl
  rw [e1, ofB_lb] at h1
  refine h1.mono ?_
  rintro e w' ⟨a, c, rfl, hk, hg, _⟩
  rcases hk with hk | ⟨b, off, rfl, hk⟩
  · cases hk
  · exact ⟨b, off, c, rfl, hk 0 (by simp), hg⟩
end Go.Proofs.Ytgabdlnbencglaa
