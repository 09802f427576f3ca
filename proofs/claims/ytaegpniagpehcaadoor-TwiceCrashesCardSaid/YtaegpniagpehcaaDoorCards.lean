/-
  DERIVED. GIVEN WITH THE SEED: THE CARDS: each row of YtaegpniagpehcaaDoorRows.lean that lists a variable, with what it lists TIED to the program's text (the seventh form; the later family's looks); each row that meets fmt, with fmt's text TOLD by the authors' own Lean function (tested against real Go, not proved from fmt's source: count such statements apart). THE CARD IS WHAT COUNTS. Prove the row's statement (the work); the ties are given (YtaegpniagpehcaaDoorTie.lean); close each card by the builder's one call (the guide's Derived/Test/ToyasCard.lean, 'card_holds'). Laid BY PROGRAM, IN A SANDBOX (cutbox-door.mjs). By AI agents, Wed Nov 11 2026. No macro, syntax, notation, axiom, sorry.
-/
import Derived.Test.YtaegpniagpehcaaDoorRows
import GoSem.ClaimSeven
namespace Go.Proofs.YtaegpniagpehcaaDoor
namespace Rows

/-- THE TIED CARD OF 'quadrigalaw12.TwiceCrashes'. -/
def twiceCrashesCard : Claim7 := { stood := { row := twiceCrashesRow, standIns := [], harness := (true, "19365aa716824d6a5a9922ba0cd8d448090823f4594f1b9bab2e686e318eddc7"), looks := false }, kinds := [], alts := [], laidByText := true, laidKinds := [.data, .data, .pinned], laidTests := true, laidLooks := .later }
def TwiceCrashesCardSaid : Prop := Claim7.holds Tryd.pinned (.plain (OpenSpec.ofChange twiceCrashesSpec)) twiceCrashesCard

/-- THE TIED CARD OF 'quadrigalaw12.TwiceNone'. -/
def twiceNoneCard : Claim7 := { stood := { row := twiceNoneRow, standIns := [], harness := (true, "19365aa716824d6a5a9922ba0cd8d448090823f4594f1b9bab2e686e318eddc7"), looks := false }, kinds := [], alts := [], laidByText := true, laidKinds := [.data, .data, .pinned], laidTests := true, laidLooks := .later }
def TwiceNoneCardSaid : Prop := Claim7.holds Tryd.pinned (.plain (OpenSpec.ofChange twiceNoneSpec)) twiceNoneCard

/-- THE SECOND FORM's CARD OF 'quadrigalaw12.TwiceCrashes'. -/
def twiceCrashesUptoCard : Claim7 := { stood := { row := twiceCrashesUptoRow, standIns := [], harness := (true, "19365aa716824d6a5a9922ba0cd8d448090823f4594f1b9bab2e686e318eddc7"), looks := false }, kinds := [], alts := [], laidByText := true, laidKinds := [.data, .data, .pinned], laidTests := true, laidLooks := .later }
def TwiceCrashesUptoCardSaid : Prop := Claim7.holds Tryd.pinned (.plain (OpenSpec.upto twiceCrashesSpec)) twiceCrashesUptoCard

/-- THE SECOND FORM's CARD OF 'quadrigalaw12.TwiceNone'. -/
def twiceNoneUptoCard : Claim7 := { stood := { row := twiceNoneUptoRow, standIns := [], harness := (true, "19365aa716824d6a5a9922ba0cd8d448090823f4594f1b9bab2e686e318eddc7"), looks := false }, kinds := [], alts := [], laidByText := true, laidKinds := [.data, .data, .pinned], laidTests := true, laidLooks := .later }
def TwiceNoneUptoCardSaid : Prop := Claim7.holds Tryd.pinned (.plain (OpenSpec.upto twiceNoneSpec)) twiceNoneUptoCard
end Rows
end Go.Proofs.YtaegpniagpehcaaDoor
