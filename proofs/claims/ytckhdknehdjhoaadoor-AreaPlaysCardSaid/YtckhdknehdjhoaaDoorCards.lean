/-
  DERIVED. GIVEN WITH THE SEED: THE CARDS: each row of YtckhdknehdjhoaaDoorRows.lean that lists a variable, with what it lists TIED to the program's text (the seventh form; the later family's looks); each row that meets fmt, with fmt's text TOLD by the authors' own Lean function (tested against real Go, not proved from fmt's source: count such statements apart). THE CARD IS WHAT COUNTS. Prove the row's statement (the work); the ties are given (YtckhdknehdjhoaaDoorTie.lean); close each card by the builder's one call (the guide's Derived/Test/ToyasCard.lean, 'card_holds'). Laid BY PROGRAM, IN A SANDBOX (cutbox-door.mjs). By AI agents, Wed Nov 11 2026. No macro, syntax, notation, axiom, sorry.
-/
import Derived.Test.YtckhdknehdjhoaaDoorRows
import GoSem.ClaimSeven
namespace Go.Proofs.YtckhdknehdjhoaaDoor
namespace Rows

/-- THE TIED CARD OF 'quadrigalaw06.AreaPlays'. -/
def areaPlaysCard : Claim7 := { stood := { row := areaPlaysRow, standIns := [], harness := (true, "19f5e8e0c778f2cee824b9669f8fab6077e7b9586761d7531e131e45fc989f05"), looks := false }, kinds := [], alts := [], laidByText := true, laidKinds := [.data, .pinned], laidTests := true, laidLooks := .later }
def AreaPlaysCardSaid : Prop := Claim7.holds Tryd.pinned (.plain (OpenSpec.ofChange areaPlaysSpec)) areaPlaysCard

/-- THE SECOND FORM's CARD OF 'quadrigalaw06.AreaPlays'. -/
def areaPlaysUptoCard : Claim7 := { stood := { row := areaPlaysUptoRow, standIns := [], harness := (true, "19f5e8e0c778f2cee824b9669f8fab6077e7b9586761d7531e131e45fc989f05"), looks := false }, kinds := [], alts := [], laidByText := true, laidKinds := [.data, .pinned], laidTests := true, laidLooks := .later }
def AreaPlaysUptoCardSaid : Prop := Claim7.holds Tryd.pinned (.plain (OpenSpec.upto areaPlaysSpec)) areaPlaysUptoCard
end Rows
end Go.Proofs.YtckhdknehdjhoaaDoor
