/-
  RECORDS AND VALUES AS ARGUMENTS, OPENED.
-/
import Derived.Test.YtophbefmlfieeaaChecked
import Derived.WalkKit
import Derived.ProofKit
import Derived.OpenShut
import Derived.Lib.SmallJoins
namespace Go.Proofs.Ytophbefmlfieeaa
open Go.ChangeShapes Go.WideShapes Go.ChangeAt Go.RowKit

theorem array11 {α : Type} {cs : Array α} (h : cs.size = 11) : ∃ c0 c1 c2 c3 c4 c5 c6 c7 c8 c9 c10, cs = #[c0, c1, c2, c3, c4, c5, c6, c7, c8, c9, c10] := by
  obtain ⟨l⟩ := cs
  match l, h with
  | [c0, c1, c2, c3, c4, c5, c6, c7, c8, c9, c10], _ => exact ⟨c0, c1, c2, c3, c4, c5, c6, c7, c8, c9, c10, rfl⟩
theorem int_one {H : Type} {enc : TypeId × Value → H} {W : World} {n : Nat} {c : Value} {y : DataW H × List MemPlace} (h : DataW.trod enc Try.prog W 0 (fun _ => true) true n 3 [c] = some y) : ∃ z, c = .int .i64 z ∧ (Lit.int .i64 z).wf = true := by
  obtain ⟨z, e, _, w⟩ := DataW.trod_int Try.underlying3 h
  exact ⟨z, by simpa using e, w⟩
theorem str_one {H : Type} {enc : TypeId × Value → H} {W : World} {n : Nat} {c : Value} {y : DataW H × List MemPlace} (h : DataW.trod enc Try.prog W 0 (fun _ => true) true n 9 [c] = some y) : ∃ s, c = .string s ∧ s.size ≤ maxLen := by
  obtain ⟨s, e, _, w⟩ := DataW.trod_string Try.underlying9 h
  exact ⟨s, by simpa using e, w⟩
theorem bool_one {H : Type} {enc : TypeId × Value → H} {W : World} {n : Nat} {c : Value} {y : DataW H × List MemPlace} (h : DataW.trod enc Try.prog W 0 (fun _ => true) true n 4 [c] = some y) : ∃ b, c = .bool b := by
  obtain ⟨b, e, _⟩ := DataW.trod_bool Try.underlying4 h
  exact ⟨b, by simpa using e⟩
theorem val_two {H : Type} {enc : TypeId × Value → H} {W : World} {n : Nat} {c d : Value} {y : DataW H × List MemPlace} (h : DataW.trod enc Try.prog W 0 (fun _ => true) true n 36 [c, d] = some y) : ∃ b s, c = .bool b ∧ d = .string s ∧ s.size ≤ maxLen := by
  obtain ⟨y0, y1, m, _, _, h0, h1⟩ := trod_struct2 Try.underlying36 h
  have hb1 : Try.prog.cellsOf 4 = 1 := by kernel_rfl
  have hs1 : Try.prog.cellsOf 9 = 1 := by kernel_rfl
  rw [hb1] at h0
  rw [hs1] at h1
  obtain ⟨b, e0⟩ := bool_one (c := c) (by simpa using h0)
  obtain ⟨s, e1, hs⟩ := str_one (c := d) (by simpa using h1)
  exact ⟨b, s, e0, e1, hs⟩
set_option maxRecDepth 100000 in
theorem val_open {H : Type} {enc : TypeId × Value → H} {W : World} {base : Nat} {v : Value} {d : DataW H} {p : List MemPlace} (hv : Value.okWide Try.prog W .any base 36 v) (h : DataW.Trod enc Try.prog W 0 (fun _ => true) true 36 v d p) :
    ∃ b s, v = .agg #[.bool b, .string s] ∧ s.size ≤ maxLen := by
  obtain ⟨cs, rfl, hsz⟩ := okWide_struct (P := Try.prog) (w := W) (r := .any) (base := base) (t := 36) (v := v) Try.underlying36 hv
  have hC : Try.prog.cellsOf 36 = 2 := by kernel_rfl
  obtain ⟨c0, c1, rfl⟩ := Go.Joins.array2 (hsz.trans hC)
  obtain ⟨fuel, hf⟩ := h
  obtain ⟨b, s, rfl, rfl, hs⟩ := val_two (c := c0) (d := c1) (by simpa [Value.cells] using hf)
  exact ⟨b, s, rfl, hs⟩
set_option maxHeartbeats 1000000 in
set_option maxRecDepth 100000 in
theorem rec_open {H : Type} {enc : TypeId × Value → H} {W : World} {base : Nat} {v : Value} {d : DataW H} {p : List MemPlace} (hv : Value.okWide Try.prog W .any base 38 v) (h : DataW.Trod enc Try.prog W 0 (fun _ => true) true 38 v d p) :
    ∃ (k g t pr pg : Int) (key : ByteArray) (hb : Bool) (sb : ByteArray) (ha : Bool) (sa : ByteArray) (u : Int),
      v = .agg #[.int .i64 k, .int .i64 g, .int .i64 t, .int .i64 pr, .int .i64 pg, .string key, .bool hb, .string sb, .bool ha, .string sa, .int .i64 u] ∧
      ((Lit.int .i64 k).wf = true ∧ (Lit.int .i64 g).wf = true ∧ (Lit.int .i64 t).wf = true ∧ (Lit.int .i64 pr).wf = true ∧ (Lit.int .i64 pg).wf = true ∧ (Lit.int .i64 u).wf = true) ∧ key.size ≤ maxLen ∧ sb.size ≤ maxLen ∧ sa.size ≤ maxLen := by
  obtain ⟨cs, rfl, hsz⟩ := okWide_struct (P := Try.prog) (w := W) (r := .any) (base := base) (t := 38) (v := v) Try.underlying38 hv
  have hC : Try.prog.cellsOf 38 = 11 := by kernel_rfl
  obtain ⟨c0, c1, c2, c3, c4, c5, c6, c7, c8, c9, c10, rfl⟩ := array11 (hsz.trans hC)
  obtain ⟨fuel, hf⟩ := h
  obtain ⟨xs, n, _, _, _, hlen, hx⟩ := DataW.trod_struct Try.underlying38 hf
  match xs, hlen with
  | [y0, y1, y2, y3, y4, y5, y6, y7, y8], _ =>
    have t0 := hx 0 _ rfl
    have t1 := hx 1 _ rfl
    have t2 := hx 2 _ rfl
    have t3 := hx 3 _ rfl
    have t4 := hx 4 _ rfl
    have t5 := hx 5 _ rfl
    have t6 := hx 6 _ rfl
    have t7 := hx 7 _ rfl
    have t8 := hx 8 _ rfl
    simp only [Value.cells] at t0 t1 t2 t3 t4 t5 t6 t7 t8
    obtain ⟨k, rfl, w0⟩ := int_one (c := c0) t0
    obtain ⟨g, rfl, w1⟩ := int_one (c := c1) t1
    obtain ⟨t, rfl, w2⟩ := int_one (c := c2) t2
    obtain ⟨pr, rfl, w3⟩ := int_one (c := c3) t3
    obtain ⟨pg, rfl, w4⟩ := int_one (c := c4) t4
    obtain ⟨key, rfl, w5⟩ := str_one (c := c5) t5
    obtain ⟨hb, sb, rfl, rfl, w6⟩ := val_two (c := c6) (d := c7) t6
    obtain ⟨ha, sa, rfl, rfl, w7⟩ := val_two (c := c8) (d := c9) t7
    obtain ⟨u, rfl, w8⟩ := int_one (c := c10) t8
    exact ⟨k, g, t, pr, pg, key, hb, sb, ha, sa, u, rfl, ⟨w0, w1, w2, w3, w4, w8⟩, w5, w6, w7⟩

end Go.Proofs.Ytophbefmlfieeaa
