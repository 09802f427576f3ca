/-
  does OF law 09: the state between two acts.
-/
import Derived.Test.YtcdkloohdafbpaaCkDoesW
import Derived.Deep.RegionWith
import Derived.Deep.Cut
import Derived.Deep.CutRange
import Derived.Deep.DeepCutAuto
namespace Go.Proofs.Ytcdkloohdafbpaa
open Go.RowKit
/-- The state between two acts. -/
def Plays (w W : World) (B C S P T M R n kk : Nat) (c : Clk) (lp lt : List (Int × Int)) : Prop := ∃ vp vt, PlaysW w W B C S P T M R n kk c c.ss vp vt c.top lp lt
theorem PlaysW.mono {w W : World} {B C S P T M R n kk kk' : Nat} {c : Clk} {ms : List Int} {vp vt : Value} {top : Int} {lp lt : List (Int × Int)} (h : PlaysW w W B C S P T M R n kk c ms vp vt top lp lt) (hk : kk ≤ kk') : PlaysW w W B C S P T M R n kk' c ms vp vt top lp lt := { h with cl := ClockAt.mono h.cl hk }
theorem DoesW.enter {w W : World} {B C S P T M R n kk : Nat} {c : Clk} {ms : List Int} {vp vt : Value} {top : Int} {lp lt : List (Int × Int)} (h : PlaysW w W B C S P T M R n kk c ms vp vt top lp lt) (x : Ac) (ty : TypeId) :
    DoesW w (W.alloc (.cells x.cells ty)) B C S P T M R n kk c ms vp vt top lp lt W.heap.size x :=
  ⟨h.below ((Below.refl _ _).alloc (Nat.le_refl _) _), by refine ⟨?_, ?_, ?_, ?_, ?_, ?_⟩ <;> simp [World.cell?_alloc_at, Ac.cells], h.bs⟩
end Go.Proofs.Ytcdkloohdafbpaa
