/-
  DERIVED. GIVEN WITH THE SEED: THE CARDS: each row of YtkckkchdkflbjaaDoorRows.lean that lists a variable, with what it lists TIED to the program's text (the seventh form; the later family's looks); each row that meets fmt, with fmt's text TOLD by the authors' own Lean function (tested against real Go, not proved from fmt's source: count such statements apart). THE CARD IS WHAT COUNTS. Prove the row's statement (the work); the ties are given (YtkckkchdkflbjaaDoorTie.lean); close each card by the builder's one call (the guide's Derived/Test/ToyasCard.lean, 'card_holds'). Laid BY PROGRAM, IN A SANDBOX (cutbox-door.mjs). By AI agents, Wed Nov 11 2026. No macro, syntax, notation, axiom, sorry.
-/
import Derived.Test.YtkckkchdkflbjaaDoorRows
import GoSem.ClaimSeven
namespace Go.Proofs.YtkckkchdkflbjaaDoor
namespace Rows

/-- THE TIED CARD OF 'quadrigalaw07.HeadNone'. -/
def headNoneCard : Claim7 := { stood := { row := headNoneRow, standIns := [], harness := (true, "47dcefc7ba7e854fdf1b43a7b8f51536f23270ad0686af1447d8cda7196ceac8"), looks := false }, kinds := [], alts := [], laidByText := true, laidKinds := [.data, .data, .pinned], laidTests := true, laidLooks := .later }
def HeadNoneCardSaid : Prop := Claim7.holds Tryd.pinned (.plain (OpenSpec.ofChange headNoneSpec)) headNoneCard

/-- THE TIED CARD OF 'quadrigalaw12.TwiceNone'. -/
def twiceNoneCard : Claim7 := { stood := { row := twiceNoneRow, standIns := [], harness := (true, "47dcefc7ba7e854fdf1b43a7b8f51536f23270ad0686af1447d8cda7196ceac8"), looks := false }, kinds := [], alts := [], laidByText := true, laidKinds := [.data, .data, .pinned], laidTests := true, laidLooks := .later }
def TwiceNoneCardSaid : Prop := Claim7.holds Tryd.pinned (.plain (OpenSpec.ofChange twiceNoneSpec)) twiceNoneCard

/-- THE SECOND FORM's CARD OF 'quadrigalaw07.HeadNone'. -/
def headNoneUptoCard : Claim7 := { stood := { row := headNoneUptoRow, standIns := [], harness := (true, "47dcefc7ba7e854fdf1b43a7b8f51536f23270ad0686af1447d8cda7196ceac8"), looks := false }, kinds := [], alts := [], laidByText := true, laidKinds := [.data, .data, .pinned], laidTests := true, laidLooks := .later }
def HeadNoneUptoCardSaid : Prop := Claim7.holds Tryd.pinned (.plain (OpenSpec.upto headNoneSpec)) headNoneUptoCard

/-- THE SECOND FORM's CARD OF 'quadrigalaw12.TwiceNone'. -/
def twiceNoneUptoCard : Claim7 := { stood := { row := twiceNoneUptoRow, standIns := [], harness := (true, "47dcefc7ba7e854fdf1b43a7b8f51536f23270ad0686af1447d8cda7196ceac8"), looks := false }, kinds := [], alts := [], laidByText := true, laidKinds := [.data, .data, .pinned], laidTests := true, laidLooks := .later }
def TwiceNoneUptoCardSaid : Prop := Claim7.holds Tryd.pinned (.plain (OpenSpec.upto twiceNoneSpec)) twiceNoneUptoCard
end Rows
end Go.Proofs.YtkckkchdkflbjaaDoor
