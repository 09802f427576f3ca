/-
  DERIVED. GIVEN WITH THE SEED: THE CARDS: each row of YtcdnkmjjedbbpaaGreatDoorRows.lean that lists a variable, with what it lists TIED to the program's text (the seventh form; the later family's looks); each row that meets fmt, with fmt's text TOLD by the authors' own Lean function (tested against real Go, not proved from fmt's source: count such statements apart). THE CARD IS WHAT COUNTS. Prove the row's statement (the work); the ties are given (YtcdnkmjjedbbpaaGreatDoorTie.lean); close each card by the builder's one call (the guide's Derived/Test/ToyasCard.lean, 'card_holds'). Laid BY PROGRAM, IN A SANDBOX (cutbox-door.mjs). By AI agents, Wed Nov 11 2026. No macro, syntax, notation, axiom, sorry.
-/
import Derived.Test.YtcdnkmjjedbbpaaGreatDoorRows
import GoSem.ClaimSeven
namespace Go.Proofs.YtcdnkmjjedbbpaaGreatDoor
namespace Rows

/-- THE TIED CARD OF 'quadrigalaw12.TwiceStores'. -/
def twiceStoresCard : Claim7 := { stood := { row := twiceStoresRow, standIns := [], harness := (true, "951450acd88fe5bc678f4577dcb51d773403ea0afdf6903596bf3c836ee36ad2"), looks := false }, kinds := [], alts := [], laidByText := true, laidKinds := [.data, .data, .pinned], laidTests := true, laidLooks := .later }
def TwiceStoresCardSaid : Prop := Claim7.holds Tryz.pinned (.plain (OpenSpec.ofChange twiceStoresSpec)) twiceStoresCard

/-- THE TIED CARD OF 'quadrigalaw12.TwiceOpens'. -/
def twiceOpensCard : Claim7 := { stood := { row := twiceOpensRow, standIns := [], harness := (true, "951450acd88fe5bc678f4577dcb51d773403ea0afdf6903596bf3c836ee36ad2"), looks := false }, kinds := [], alts := [], laidByText := true, laidKinds := [.data, .data, .pinned], laidTests := true, laidLooks := .later }
def TwiceOpensCardSaid : Prop := Claim7.holds Tryz.pinned (.plain (OpenSpec.ofChange twiceOpensSpec)) twiceOpensCard

/-- THE SECOND FORM's CARD OF 'quadrigalaw12.TwiceStores'. -/
def twiceStoresUptoCard : Claim7 := { stood := { row := twiceStoresUptoRow, standIns := [], harness := (true, "951450acd88fe5bc678f4577dcb51d773403ea0afdf6903596bf3c836ee36ad2"), looks := false }, kinds := [], alts := [], laidByText := true, laidKinds := [.data, .data, .pinned], laidTests := true, laidLooks := .later }
def TwiceStoresUptoCardSaid : Prop := Claim7.holds Tryz.pinned (.plain (OpenSpec.upto twiceStoresSpec)) twiceStoresUptoCard

/-- THE SECOND FORM's CARD OF 'quadrigalaw12.TwiceOpens'. -/
def twiceOpensUptoCard : Claim7 := { stood := { row := twiceOpensUptoRow, standIns := [], harness := (true, "951450acd88fe5bc678f4577dcb51d773403ea0afdf6903596bf3c836ee36ad2"), looks := false }, kinds := [], alts := [], laidByText := true, laidKinds := [.data, .data, .pinned], laidTests := true, laidLooks := .later }
def TwiceOpensUptoCardSaid : Prop := Claim7.holds Tryz.pinned (.plain (OpenSpec.upto twiceOpensSpec)) twiceOpensUptoCard
end Rows
end Go.Proofs.YtcdnkmjjedbbpaaGreatDoor
