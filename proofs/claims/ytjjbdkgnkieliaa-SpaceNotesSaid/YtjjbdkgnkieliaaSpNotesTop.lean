/-
  SpaceNotes: the walk, for the arguments as they are opened.
-/
import Derived.Test.YtjjbdkgnkieliaaSpNotesLaw
import Derived.Test.YtjjbdkgnkieliaaSpBackOpen
namespace Go.Proofs.Ytjjbdkgnkieliaa
open Go.RowKit
theorem spaceNotes_top (la : Option Addr) (l : List NAct) (lc : Nat) (txn no cells : Int) (W : World) (hl : NActs W la l) (hln : l.length ≤ maxLen) (hx : ∀ i, i < l.length → NAOk W (l.getD i noNA)) (ht : (Lit.int .i64 txn).wf = true) (hno : (Lit.int .i64 no).wf = true) (hc : (Lit.int .u8 cells).wf = true) :
    Calls Try.prog 3 #[.slice la l.length lc, .int .i64 txn, .int .i64 no, .int .u8 cells] W fun e w' => e = .returned (.bool true) ∧ Below W.heap.size W w' := by
  obtain ⟨k, _, rfl⟩ := u8_nat hc
  exact spaceNotes_walk la l lc txn no k W hl hln hx ht hno
end Go.Proofs.Ytjjbdkgnkieliaa
