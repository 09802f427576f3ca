/-
  DERIVED. GIVEN WITH THE SEED: THE CARDS: each row of YthlhjpcclfhklaaDoorRows.lean that lists a variable, with what it lists TIED to the program's text (the seventh form; the later family's looks); each row that meets fmt, with fmt's text TOLD by the authors' own Lean function (tested against real Go, not proved from fmt's source: count such statements apart). THE CARD IS WHAT COUNTS. Prove the row's statement (the work); the ties are given (YthlhjpcclfhklaaDoorTie.lean); close each card by the builder's one call (the guide's Derived/Test/ToyasCard.lean, 'card_holds'). Laid BY PROGRAM, IN A SANDBOX (cutbox-door.mjs). By AI agents, Wed Nov 11 2026. No macro, syntax, notation, axiom, sorry.
-/
import Derived.Test.YthlhjpcclfhklaaDoorRows
import GoSem.ClaimSeven
namespace Go.Proofs.YthlhjpcclfhklaaDoor
namespace Rows

/-- THE TIED CARD OF 'quadrigalaw07.HeadCrashes'. -/
def headCrashesCard : Claim7 := { stood := { row := headCrashesRow, standIns := [], harness := (true, "fb8e1a9aca80bf7695866ffc9217d96c1cae58129ad20819a1853623293f0da8"), looks := false }, kinds := [], alts := [], laidByText := true, laidKinds := [.data, .data, .pinned], laidTests := true, laidLooks := .later }
def HeadCrashesCardSaid : Prop := Claim7.holds Tryd.pinned (.plain (OpenSpec.ofChange headCrashesSpec)) headCrashesCard

/-- THE SECOND FORM's CARD OF 'quadrigalaw07.HeadCrashes'. -/
def headCrashesUptoCard : Claim7 := { stood := { row := headCrashesUptoRow, standIns := [], harness := (true, "fb8e1a9aca80bf7695866ffc9217d96c1cae58129ad20819a1853623293f0da8"), looks := false }, kinds := [], alts := [], laidByText := true, laidKinds := [.data, .data, .pinned], laidTests := true, laidLooks := .later }
def HeadCrashesUptoCardSaid : Prop := Claim7.holds Tryd.pinned (.plain (OpenSpec.upto headCrashesSpec)) headCrashesUptoCard
end Rows
end Go.Proofs.YthlhjpcclfhklaaDoor
