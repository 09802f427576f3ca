/-
  SpaceBack: the walk, for the arguments as they are opened.
-/
import Derived.Test.YtjjbdkgnkieliaaSpBackLaw
import Derived.Test.YtjjbdkgnkieliaaSpBackOpen
namespace Go.Proofs.Ytjjbdkgnkieliaa
open Go.RowKit
theorem spaceBack_top (first : Int) (la : Option Addr) (l : List Mv) (lc : Nat) (qa : Option Addr) (q : List Nat) (qc : Nat) (W : World) (w0 : (Lit.int .u8 first).wf = true) (l8 : ∀ i, i < l.length → (l.getD i noMv).1 < 256) (lm : MvsAt W la l) (q8 : ∀ i, i < q.length → q.getD i 0 < 256) (qm : U8s W qa q) :
    Calls Try.prog 5 #[.int .u8 first, .slice la l.length lc, .slice qa q.length qc] W fun e w' => e = .returned (.bool true) ∧ Below W.heap.size W w' := by
  obtain ⟨k, _, rfl⟩ := u8_nat w0
  exact spaceBack_walk k la l lc qa q qc W ⟨l8, q8, lm, qm⟩
end Go.Proofs.Ytjjbdkgnkieliaa
