/-
  WHAT IS DONE TO A DEVICE THAT HOLDS PAGES, use by use, as functions of its state.
-/
import Derived.Test.YtkemhkmabbladaaGreatDoorPlDev
import Derived.Test.YtkemhkmabbladaaGreatDoorNuml
namespace Go.Proofs.YtkemhkmabbladaaGreatDoor
open Go.RowKit
/-- A sector's part of a page's bytes. -/
def sec (b : ByteArray) (i : Nat) : List UInt8 := (b.data.toList.drop (64 * i)).take 64
/-- The writes that are left of a page's bytes, and the Sync behind them. -/
def layK : Nat → Nat → ByteArray → Ds → Bool × Ds
  | 0, _, _ => sy
  | m + 1, at_, b => sq (wr (at_ + (4 - (m + 1))) (sec b (4 - (m + 1)))) (layK m at_ b)
def layM (at_ : Nat) (b : ByteArray) : Ds → Bool × Ds := layK 4 at_ b
def noteL (k : Nat) : List UInt8 := be 1 k
def noteM (k : Nat) : Ds → Bool × Ds := sq (wr 0 (noteL k)) sy
def place (no : Nat) : Nat := 5 + 4 * no
def settleM (no : Nat) (b : ByteArray) : Ds → Bool × Ds := sq (layM (place no) b) (noteM 0)
/-- What a Store of a right page does. -/
def headM (no : Nat) (b : ByteArray) : Ds → Bool × Ds := sq (layM 1 b) (noteM (no + 1))
def storeM (no : Nat) (b : ByteArray) : Ds → Bool × Ds := sq (layM 1 b) (sq (noteM (no + 1)) (settleM no b))
theorem sq_assoc (a b c : Ds → Bool × Ds) (s : Ds) : sq a (sq b c) s = sq (sq a b) c s := by
  unfold sq
  cases (a s).1 <;> rfl
theorem storeM_two (no : Nat) (b : ByteArray) (s : Ds) : storeM no b s = sq (headM no b) (settleM no b) s := sq_assoc _ _ _ s
end Go.Proofs.YtkemhkmabbladaaGreatDoor
