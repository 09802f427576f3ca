/-
  A VARIABLE'S CELLS BEHIND A CALL.
-/
import Derived.Test.YtpfgdmjgeelobaaDoorFrMake
namespace Go.Proofs.YtpfgdmjgeelobaaDoor
open Go.RowKit

theorem var_cells {w w' : World} {cs : Array Value} {T : TypeId} (h : Below (w.alloc (.cells cs T)).heap.size (w.alloc (.cells cs T)) w') : ∀ i, w'.cell? ⟨w.heap.size, i, none⟩ = cs[i]? :=
  (block_cells (after_alloc h) rfl).1
end Go.Proofs.YtpfgdmjgeelobaaDoor
