/-
  ARGUMENTS OPENED: a slice of ints, as law 05's DeviceKeeps is given one.
-/
import Derived.Test.YtmoadcjfgnemfaaDvOpen
namespace Go.Proofs.Ytmoadcjfgnemfaa
open Go.ChangeShapes Go.WideShapes Go.ChangeAt Go.RowKit
set_option maxRecDepth 100000 in
theorem its_open {H : Type} {enc : TypeId × Value → H} {W : World} {base : Nat} {v : Value} {d : DataW H} {p : List MemPlace} (hv : Value.okWide Try.prog W .any base 36 v) (h : DataW.Trod enc Try.prog W 0 (fun _ => true) true 36 v d p) :
    ∃ (a : Option Addr) (l : List Int) (cap : Nat), v = .slice a l.length cap ∧ l.length ≤ maxLen ∧ (∀ z ∈ l, (Lit.int .i64 z).wf = true) ∧ IntsAt W a l := by
  obtain ⟨a0, len, cap, rfl⟩ := okWide_slice Try.underlying36 hv
  obtain ⟨fuel, hf⟩ := h
  obtain ⟨a, l, c, e, h1, h2, h3⟩ := one_ints (c := .slice a0 len cap) (by simpa [Value.cells] using hf)
  exact ⟨a, l, c, e, h2, h1, h3⟩
end Go.Proofs.Ytmoadcjfgnemfaa
