/-
  ARGUMENTS OPENED: a head by value (five whole numbers).
-/
import Derived.Test.YtkckkchdkflbjaaDoorHdNoneLaw
import Derived.ProofKit
import Derived.OpenShut
import Derived.Deep.Slices
import Derived.Deep.Fields
namespace Go.Proofs.YtkckkchdkflbjaaDoor
open Go.ChangeShapes Go.WideShapes Go.ChangeAt Go.RowKit
theorem i64_wf {n : Int} (h : (Lit.int .i64 n).wf = true) : -9223372036854775808 ≤ n ∧ n ≤ 9223372036854775807 := by
  simp [Lit.wf, IntKind.min, IntKind.max, IntKind.signed, IntKind.bits] at h
  omega
section
variable {H : Type} {enc : TypeId × Value → H} {W : World} {n : Nat}
theorem hone_int {c : Value} {y : DataW H × List MemPlace} (h : DataW.trod enc Tryd.prog W 0 (fun _ => true) true n 3 [c] = some y) : ∃ z, c = .int .i64 z ∧ (Lit.int .i64 z).wf = true := by
  obtain ⟨z, e, _, w⟩ := DataW.trod_int Tryd.underlying3 h
  exact ⟨z, by simpa using e, w⟩
theorem hlist5 {α : Type} {cs : List α} (h : cs.length = 5) : ∃ c0 c1 c2 c3 c4, cs = [c0, c1, c2, c3, c4] := by
  match cs, h with
  | [c0, c1, c2, c3, c4], _ => exact ⟨c0, c1, c2, c3, c4, rfl⟩
theorem hd_cells : Tryd.prog.cellsOf 23 = 5 := by kernel_rfl
set_option maxRecDepth 100000 in
theorem hd_one {cs : List Value} {y : DataW H × List MemPlace} (hl : cs.length = 5) (h : DataW.trod enc Tryd.prog W 0 (fun _ => true) true n 23 cs = some y) :
    ∃ s e c st m, cs = [.int .i64 s, .int .i64 e, .int .i64 c, .int .i64 st, .int .i64 m] := by
  obtain ⟨c0, c1, c2, c3, c4, rfl⟩ := hlist5 hl
  obtain ⟨xs, m, _, _, _, hlen, hx⟩ := DataW.trod_struct Tryd.underlying23 h
  match xs, hlen with
  | [y0, y1, y2, y3, y4], _ =>
    have t0 := hx 0 _ rfl
    have t1 := hx 1 _ rfl
    have t2 := hx 2 _ rfl
    have t3 := hx 3 _ rfl
    have t4 := hx 4 _ rfl
    obtain ⟨s, rfl, w0⟩ := hone_int (c := c0) t0
    obtain ⟨e, rfl, w1⟩ := hone_int (c := c1) t1
    obtain ⟨c, rfl, w2⟩ := hone_int (c := c2) t2
    obtain ⟨st, rfl, w3⟩ := hone_int (c := c3) t3
    obtain ⟨z, rfl, w4⟩ := hone_int (c := c4) t4
    exact ⟨s, e, c, st, z, rfl⟩
set_option maxRecDepth 100000 in
theorem hd_open {base : Nat} {v : Value} {d : DataW H} {p : List MemPlace} (hv : Value.okWide Tryd.prog W .any base 23 v) (h : DataW.Trod enc Tryd.prog W 0 (fun _ => true) true 23 v d p) :
    ∃ s e c st m, v = .agg #[.int .i64 s, .int .i64 e, .int .i64 c, .int .i64 st, .int .i64 m] := by
  obtain ⟨cs, rfl, hsz⟩ := okWide_struct (P := Tryd.prog) (w := W) (r := .any) (base := base) (t := 23) (v := v) Tryd.underlying23 hv
  obtain ⟨fuel, hf⟩ := h
  obtain ⟨s, e, c, st, m, hx⟩ := hd_one (cs := cs.toList) (by simpa using hsz.trans hd_cells) (by simpa [Value.cells] using hf)
  refine ⟨s, e, c, st, m, ?_⟩
  congr 1
  apply Array.toList_inj.1
  exact hx
end
end Go.Proofs.YtkckkchdkflbjaaDoor
