/-
  A DRAWN REGION THAT ONLY READS: in the order of its text, operations that aren't wanted too.
-/
import Derived.Test.YtobgopiadfinbaaDpAsk
import Derived.Deep.RegionHeld3
import Derived.StillTailTactics
namespace Go.Proofs.Ytobgopiadfinbaa
open Go.RowKit
/-- Where the rest of a region only reads: in the text's order. -/
theorem wpAny_rest {P : Program} {l : List Oper} {fuel : Nat} {listed : Array Bool} {a : Act} {w : World} {Q : Exit → Act → World → Prop} (k : Nat) (hf : fuel = (l.drop k).length)
    (hB : (Region.noSelect l.toArray && Region.lexFrom .any l.toArray (l.drop k).length k listed) = true) (h : wpStill P l.toArray w (fun a' => Q .normal a' w) (l.drop k) a) : wpAny P .any l.toArray Q fuel listed a w := by
  rw [Bool.and_eq_true] at hB
  subst hf
  exact wpAny_of_still (Q := fun a' => Q .normal a' w) (fun _ h => h) _ _ _ (wpAnyS_lex hB.1 _ k listed a (fun j => by simp) hB.2 h)
end Go.Proofs.Ytobgopiadfinbaa
