/-
  DERIVED. GIVEN WITH THE SEED: THE CARDS: each row of YtlggbbaigcnpjaaDoorRows.lean that lists a variable, with what it lists TIED to the program's text (the seventh form; the later family's looks); each row that meets fmt, with fmt's text TOLD by the authors' own Lean function (tested against real Go, not proved from fmt's source: count such statements apart). THE CARD IS WHAT COUNTS. Prove the row's statement (the work); the ties are given (YtlggbbaigcnpjaaDoorTie.lean); close each card by the builder's one call (the guide's Derived/Test/ToyasCard.lean, 'card_holds'). Laid BY PROGRAM, IN A SANDBOX (cutbox-door.mjs). By AI agents, Wed Nov 11 2026. No macro, syntax, notation, axiom, sorry.
-/
import Derived.Test.YtlggbbaigcnpjaaDoorRows
import GoSem.ClaimSeven
namespace Go.Proofs.YtlggbbaigcnpjaaDoor
namespace Rows

/-- THE TIED CARD OF 'quadrigalaw04.RecordBytes'. -/
def recordBytesCard : Claim7 := { stood := { row := recordBytesRow, standIns := [], harness := (true, "de043788c95dd4fedcaa48bc9d3721c2f45402ea68dbfd19761cf4930e02bc59"), looks := false }, kinds := [], alts := [], laidByText := true, laidKinds := [.data, .data, .data, .data], laidTests := true, laidLooks := .later }
def RecordBytesCardSaid : Prop := Claim7.holds Tryd.pinned (.plain (OpenSpec.ofChange recordBytesSpec)) recordBytesCard

/-- THE TIED CARD OF 'quadrigalaw04.RecordPrints'. -/
def recordPrintsCard : Claim7 := { stood := { row := recordPrintsRow, standIns := [], harness := (true, "de043788c95dd4fedcaa48bc9d3721c2f45402ea68dbfd19761cf4930e02bc59"), looks := false }, kinds := [], alts := [], laidByText := true, laidKinds := [.data, .data, .data, .data], laidTests := true, laidLooks := .later }
def RecordPrintsCardSaid : Prop := Claim7.holds Tryd.pinned (.plain (OpenSpec.ofChange recordPrintsSpec)) recordPrintsCard

/-- THE SECOND FORM's CARD OF 'quadrigalaw04.RecordBytes'. -/
def recordBytesUptoCard : Claim7 := { stood := { row := recordBytesUptoRow, standIns := [], harness := (true, "de043788c95dd4fedcaa48bc9d3721c2f45402ea68dbfd19761cf4930e02bc59"), looks := false }, kinds := [], alts := [], laidByText := true, laidKinds := [.data, .data, .data, .data], laidTests := true, laidLooks := .later }
def RecordBytesUptoCardSaid : Prop := Claim7.holds Tryd.pinned (.plain (OpenSpec.upto recordBytesSpec)) recordBytesUptoCard

/-- THE SECOND FORM's CARD OF 'quadrigalaw04.RecordPrints'. -/
def recordPrintsUptoCard : Claim7 := { stood := { row := recordPrintsUptoRow, standIns := [], harness := (true, "de043788c95dd4fedcaa48bc9d3721c2f45402ea68dbfd19761cf4930e02bc59"), looks := false }, kinds := [], alts := [], laidByText := true, laidKinds := [.data, .data, .data, .data], laidTests := true, laidLooks := .later }
def RecordPrintsUptoCardSaid : Prop := Claim7.holds Tryd.pinned (.plain (OpenSpec.upto recordPrintsSpec)) recordPrintsUptoCard
end Rows
end Go.Proofs.YtlggbbaigcnpjaaDoor
