/-
  RECORDS AND VALUES AS ARGUMENTS, OPENED; THE TABLE OF NAMES, AS THE ROW LISTS IT.
-/
import Derived.Test.YtlggbbaigcnpjaaDoorChecked
import Derived.Test.YtlggbbaigcnpjaaDoorRows
import Derived.WalkKit
import Derived.ProofKit
import Derived.OpenShut
import Derived.Lib.SmallJoins
import Derived.Lib.LaidTab
import Derived.Stop.LaidErr
namespace Go.Proofs.YtlggbbaigcnpjaaDoor
open Go.ChangeShapes Go.WideShapes Go.ChangeAt Go.RowKit

theorem array11 {α : Type} {cs : Array α} (h : cs.size = 11) : ∃ c0 c1 c2 c3 c4 c5 c6 c7 c8 c9 c10, cs = #[c0, c1, c2, c3, c4, c5, c6, c7, c8, c9, c10] := by
  obtain ⟨l⟩ := cs
  match l, h with
  | [c0, c1, c2, c3, c4, c5, c6, c7, c8, c9, c10], _ => exact ⟨c0, c1, c2, c3, c4, c5, c6, c7, c8, c9, c10, rfl⟩
theorem int_one {H : Type} {enc : TypeId × Value → H} {W : World} {n : Nat} {c : Value} {y : DataW H × List MemPlace} (h : DataW.trod enc Tryd.prog W 0 (fun _ => true) true n 3 [c] = some y) : ∃ z, c = .int .i64 z ∧ (Lit.int .i64 z).wf = true := by
  obtain ⟨z, e, _, w⟩ := DataW.trod_int Tryd.underlying3 h
  exact ⟨z, by simpa using e, w⟩
theorem str_one {H : Type} {enc : TypeId × Value → H} {W : World} {n : Nat} {c : Value} {y : DataW H × List MemPlace} (h : DataW.trod enc Tryd.prog W 0 (fun _ => true) true n 9 [c] = some y) : ∃ s, c = .string s ∧ s.size ≤ maxLen := by
  obtain ⟨s, e, _, w⟩ := DataW.trod_string Tryd.underlying9 h
  exact ⟨s, by simpa using e, w⟩
theorem bool_one {H : Type} {enc : TypeId × Value → H} {W : World} {n : Nat} {c : Value} {y : DataW H × List MemPlace} (h : DataW.trod enc Tryd.prog W 0 (fun _ => true) true n 4 [c] = some y) : ∃ b, c = .bool b := by
  obtain ⟨b, e, _⟩ := DataW.trod_bool Tryd.underlying4 h
  exact ⟨b, by simpa using e⟩
theorem val_two {H : Type} {enc : TypeId × Value → H} {W : World} {n : Nat} {c d : Value} {y : DataW H × List MemPlace} (h : DataW.trod enc Tryd.prog W 0 (fun _ => true) true n 23 [c, d] = some y) : ∃ b s, c = .bool b ∧ d = .string s ∧ s.size ≤ maxLen := by
  obtain ⟨y0, y1, m, _, _, h0, h1⟩ := trod_struct2 Tryd.underlying23 h
  have hb1 : Tryd.prog.cellsOf 4 = 1 := by kernel_rfl
  have hs1 : Tryd.prog.cellsOf 9 = 1 := by kernel_rfl
  rw [hb1] at h0
  rw [hs1] at h1
  obtain ⟨b, e0⟩ := bool_one (c := c) (by simpa using h0)
  obtain ⟨s, e1, hs⟩ := str_one (c := d) (by simpa using h1)
  exact ⟨b, s, e0, e1, hs⟩
set_option maxRecDepth 100000 in
theorem val_open {H : Type} {enc : TypeId × Value → H} {W : World} {base : Nat} {v : Value} {d : DataW H} {p : List MemPlace} (hv : Value.okWide Tryd.prog W .any base 23 v) (h : DataW.Trod enc Tryd.prog W 0 (fun _ => true) true 23 v d p) :
    ∃ b s, v = .agg #[.bool b, .string s] ∧ s.size ≤ maxLen := by
  obtain ⟨cs, rfl, hsz⟩ := okWide_struct (P := Tryd.prog) (w := W) (r := .any) (base := base) (t := 23) (v := v) Tryd.underlying23 hv
  have hC : Tryd.prog.cellsOf 23 = 2 := by kernel_rfl
  obtain ⟨c0, c1, rfl⟩ := Go.Joins.array2 (hsz.trans hC)
  obtain ⟨fuel, hf⟩ := h
  obtain ⟨b, s, rfl, rfl, hs⟩ := val_two (c := c0) (d := c1) (by simpa [Value.cells] using hf)
  exact ⟨b, s, rfl, hs⟩
set_option maxHeartbeats 1000000 in
set_option maxRecDepth 100000 in
theorem rec_open {H : Type} {enc : TypeId × Value → H} {W : World} {base : Nat} {v : Value} {d : DataW H} {p : List MemPlace} (hv : Value.okWide Tryd.prog W .any base 25 v) (h : DataW.Trod enc Tryd.prog W 0 (fun _ => true) true 25 v d p) :
    ∃ (k g t pr pg : Int) (key : ByteArray) (hb : Bool) (sb : ByteArray) (ha : Bool) (sa : ByteArray) (u : Int),
      v = .agg #[.int .i64 k, .int .i64 g, .int .i64 t, .int .i64 pr, .int .i64 pg, .string key, .bool hb, .string sb, .bool ha, .string sa, .int .i64 u] ∧
      ((Lit.int .i64 k).wf = true ∧ (Lit.int .i64 g).wf = true ∧ (Lit.int .i64 t).wf = true ∧ (Lit.int .i64 pr).wf = true ∧ (Lit.int .i64 pg).wf = true ∧ (Lit.int .i64 u).wf = true) ∧ key.size ≤ maxLen ∧ sb.size ≤ maxLen ∧ sa.size ≤ maxLen := by
  obtain ⟨cs, rfl, hsz⟩ := okWide_struct (P := Tryd.prog) (w := W) (r := .any) (base := base) (t := 25) (v := v) Tryd.underlying25 hv
  have hC : Tryd.prog.cellsOf 25 = 11 := by kernel_rfl
  obtain ⟨c0, c1, c2, c3, c4, c5, c6, c7, c8, c9, c10, rfl⟩ := array11 (hsz.trans hC)
  obtain ⟨fuel, hf⟩ := h
  obtain ⟨xs, n, _, _, _, hlen, hx⟩ := DataW.trod_struct Tryd.underlying25 hf
  match xs, hlen with
  | [y0, y1, y2, y3, y4, y5, y6, y7, y8], _ =>
    have t0 := hx 0 _ rfl
    have t1 := hx 1 _ rfl
    have t2 := hx 2 _ rfl
    have t3 := hx 3 _ rfl
    have t4 := hx 4 _ rfl
    have t5 := hx 5 _ rfl
    have t6 := hx 6 _ rfl
    have t7 := hx 7 _ rfl
    have t8 := hx 8 _ rfl
    simp only [Value.cells] at t0 t1 t2 t3 t4 t5 t6 t7 t8
    obtain ⟨k, rfl, w0⟩ := int_one (c := c0) t0
    obtain ⟨g, rfl, w1⟩ := int_one (c := c1) t1
    obtain ⟨t, rfl, w2⟩ := int_one (c := c2) t2
    obtain ⟨pr, rfl, w3⟩ := int_one (c := c3) t3
    obtain ⟨pg, rfl, w4⟩ := int_one (c := c4) t4
    obtain ⟨key, rfl, w5⟩ := str_one (c := c5) t5
    obtain ⟨hb, sb, rfl, rfl, w6⟩ := val_two (c := c6) (d := c7) t6
    obtain ⟨ha, sa, rfl, rfl, w7⟩ := val_two (c := c8) (d := c9) t7
    obtain ⟨u, rfl, w8⟩ := int_one (c := c10) t8
    exact ⟨k, g, t, pr, pg, key, hb, sb, ha, sa, u, rfl, ⟨w0, w1, w2, w3, w4, w8⟩, w5, w6, w7⟩

/-! ### the table of names -/
/-- An array of texts that reads as these texts holds them, cell for cell. -/
theorem cells_of_texts {H : Type} {enc : TypeId × Value → H} {P : Program} {w : World} {base : Nat} {sp : Nat → Bool} {held : Bool} {fuel : Nat} {t e : TypeId} {n : Nat} {cs : List Value} {ls : List (List UInt8)} {p : List MemPlace}
    (ht : P.underlying t = some (.array n e)) (he : P.underlying e = some .string) (hce : P.cellsOf e = 1) (hct : P.cellsOf t = n)
    (h : DataW.trod enc P w base sp held fuel t cs = some (.agg (ls.map fun l => .lit (.string l)), p)) : cs = ls.map fun l => Value.string ⟨l.toArray⟩ := by
  cases fuel with
  | zero => simp [DataW.trod] at h
  | succ fuel =>
    simp only [DataW.trod, ht, hce, hct, Nat.mul_one] at h
    split at h
    · rename_i hl
      obtain ⟨xs, hm, hx⟩ := Option.map_eq_some_iff.1 h
      have hxs : xs.map (·.1) = ls.map fun l => (DataW.lit (.string l) : DataW H) := by
        have := congrArg Prod.fst hx
        simpa using this
      have hxl : xs.length = n := by simpa using Lib.mapM_length hm
      have hzl : ls.length = n := by
        have := congrArg List.length hxs
        simp at this
        omega
      apply List.ext_getElem?
      intro i
      by_cases hi : i < n
      · obtain ⟨b, hb, hf⟩ := Lib.mapM_at hm i i (by simp [hi])
        obtain ⟨s, hc, rfl, _⟩ := DataW.trod_string he hf
        have h1 : cs[i]? = some (.string s) := by
          have := congrArg (·[0]?) hc
          simpa [List.getElem?_take, List.getElem?_drop] using this
        have h2 : (xs.map (·.1))[i]? = some (DataW.lit (.string s.data.toList) : DataW H) := by simp [hb]
        rw [hxs] at h2
        simp only [List.getElem?_map, Option.map_eq_some_iff, DataW.lit.injEq, Lit.string.injEq] at h2
        obtain ⟨l, hl', rfl⟩ := h2
        simp [h1, hl']
      · rw [List.getElem?_eq_none (by omega), List.getElem?_eq_none (by simp; omega)]
    · cases h
def nameTexts : List (List UInt8) := [[], [98, 101, 103, 105, 110], [117, 112, 100, 97, 116, 101], [99, 108, 114], [115, 97, 118, 101], [99, 111, 109, 109, 105, 116], [101, 110, 100]]
/-- All names, in their cells. -/
def NamesAt (w : World) : Prop := ∀ i, i < 7 → w.cell? ⟨0, i, none⟩ = some (.string ⟨(nameTexts.getD i []).toArray⟩)
theorem names_of_laid {W : World} (h : laidMet Tryd.prog [("quadriga/record.names", Rows.laid_quadriga_record_names)] W) : NamesAt W := by
  obtain ⟨ps, ⟨g', t', cs, fuel, p, q, hg', ht', hvar, hd, _, _⟩, _⟩ := h
  obtain rfl := Option.some.inj ((show Tryd.prog.globalNamed "quadriga/record.names" = some 0 by kernel_rfl).symm.trans hg')
  obtain rfl := Option.some.inj ((show (Tryd.prog.globals[0]?).map (·.type) = some 55 by kernel_rfl).symm.trans ht')
  have e := cells_of_texts (ls := nameTexts) Tryd.underlying55 Tryd.underlying9 (by kernel_rfl) (by kernel_rfl) hd
  have hv : W.var? Tryd.prog "quadriga/record.names" = some (nameTexts.map fun l => Value.string ⟨l.toArray⟩).toArray := by
    rw [hvar, ← e]
  intro i hi
  have hgn : Tryd.prog.globalNamed "quadriga/record.names" = some 0 := by kernel_rfl
  have := World.var?_cell hgn hv i
  rw [this]
  have hl : nameTexts.length = 7 := rfl
  simp [List.getD, hl, hi]
end Go.Proofs.YtlggbbaigcnpjaaDoor
