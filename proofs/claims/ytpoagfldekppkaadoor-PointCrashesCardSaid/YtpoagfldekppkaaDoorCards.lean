/-
  DERIVED. GIVEN WITH THE SEED: THE CARDS: each row of YtpoagfldekppkaaDoorRows.lean that lists a variable, with what it lists TIED to the program's text (the seventh form; the later family's looks); each row that meets fmt, with fmt's text TOLD by the authors' own Lean function (tested against real Go, not proved from fmt's source: count such statements apart). THE CARD IS WHAT COUNTS. Prove the row's statement (the work); the ties are given (YtpoagfldekppkaaDoorTie.lean); close each card by the builder's one call (the guide's Derived/Test/ToyasCard.lean, 'card_holds'). Laid BY PROGRAM, IN A SANDBOX (cutbox-door.mjs). By AI agents, Wed Nov 11 2026. No macro, syntax, notation, axiom, sorry.
-/
import Derived.Test.YtpoagfldekppkaaDoorRows
import GoSem.ClaimSeven
namespace Go.Proofs.YtpoagfldekppkaaDoor
namespace Rows

/-- THE TIED CARD OF 'quadrigalaw19.PointLows'. -/
def pointLowsCard : Claim7 := { stood := { row := pointLowsRow, standIns := [], harness := (true, "5058a88a5780e6f99be79781246df419d75fdddc4bd19022e7f39b5705f0aaa8"), looks := false }, kinds := [], alts := [], laidByText := true, laidKinds := [.data, .data, .pinned], laidTests := true, laidLooks := .later }
def PointLowsCardSaid : Prop := Claim7.holds Tryd.pinned (.plain (OpenSpec.ofChange pointLowsSpec)) pointLowsCard

/-- THE TIED CARD OF 'quadrigalaw19.PointKeeps'. -/
def pointKeepsCard : Claim7 := { stood := { row := pointKeepsRow, standIns := [], harness := (true, "5058a88a5780e6f99be79781246df419d75fdddc4bd19022e7f39b5705f0aaa8"), looks := false }, kinds := [], alts := [], laidByText := true, laidKinds := [.data, .data, .pinned], laidTests := true, laidLooks := .later }
def PointKeepsCardSaid : Prop := Claim7.holds Tryd.pinned (.plain (OpenSpec.ofChange pointKeepsSpec)) pointKeepsCard

/-- THE TIED CARD OF 'quadrigalaw19.PointCrashes'. -/
def pointCrashesCard : Claim7 := { stood := { row := pointCrashesRow, standIns := [], harness := (true, "5058a88a5780e6f99be79781246df419d75fdddc4bd19022e7f39b5705f0aaa8"), looks := false }, kinds := [], alts := [], laidByText := true, laidKinds := [.data, .data, .pinned], laidTests := true, laidLooks := .later }
def PointCrashesCardSaid : Prop := Claim7.holds Tryd.pinned (.plain (OpenSpec.ofChange pointCrashesSpec)) pointCrashesCard

/-- THE TIED CARD OF 'quadrigalaw19.PointNone'. -/
def pointNoneCard : Claim7 := { stood := { row := pointNoneRow, standIns := [], harness := (true, "5058a88a5780e6f99be79781246df419d75fdddc4bd19022e7f39b5705f0aaa8"), looks := false }, kinds := [], alts := [], laidByText := true, laidKinds := [.data, .data, .pinned], laidTests := true, laidLooks := .later }
def PointNoneCardSaid : Prop := Claim7.holds Tryd.pinned (.plain (OpenSpec.ofChange pointNoneSpec)) pointNoneCard

/-- THE SECOND FORM's CARD OF 'quadrigalaw19.PointLows'. -/
def pointLowsUptoCard : Claim7 := { stood := { row := pointLowsUptoRow, standIns := [], harness := (true, "5058a88a5780e6f99be79781246df419d75fdddc4bd19022e7f39b5705f0aaa8"), looks := false }, kinds := [], alts := [], laidByText := true, laidKinds := [.data, .data, .pinned], laidTests := true, laidLooks := .later }
def PointLowsUptoCardSaid : Prop := Claim7.holds Tryd.pinned (.plain (OpenSpec.upto pointLowsSpec)) pointLowsUptoCard

/-- THE SECOND FORM's CARD OF 'quadrigalaw19.PointKeeps'. -/
def pointKeepsUptoCard : Claim7 := { stood := { row := pointKeepsUptoRow, standIns := [], harness := (true, "5058a88a5780e6f99be79781246df419d75fdddc4bd19022e7f39b5705f0aaa8"), looks := false }, kinds := [], alts := [], laidByText := true, laidKinds := [.data, .data, .pinned], laidTests := true, laidLooks := .later }
def PointKeepsUptoCardSaid : Prop := Claim7.holds Tryd.pinned (.plain (OpenSpec.upto pointKeepsSpec)) pointKeepsUptoCard

/-- THE SECOND FORM's CARD OF 'quadrigalaw19.PointCrashes'. -/
def pointCrashesUptoCard : Claim7 := { stood := { row := pointCrashesUptoRow, standIns := [], harness := (true, "5058a88a5780e6f99be79781246df419d75fdddc4bd19022e7f39b5705f0aaa8"), looks := false }, kinds := [], alts := [], laidByText := true, laidKinds := [.data, .data, .pinned], laidTests := true, laidLooks := .later }
def PointCrashesUptoCardSaid : Prop := Claim7.holds Tryd.pinned (.plain (OpenSpec.upto pointCrashesSpec)) pointCrashesUptoCard

/-- THE SECOND FORM's CARD OF 'quadrigalaw19.PointNone'. -/
def pointNoneUptoCard : Claim7 := { stood := { row := pointNoneUptoRow, standIns := [], harness := (true, "5058a88a5780e6f99be79781246df419d75fdddc4bd19022e7f39b5705f0aaa8"), looks := false }, kinds := [], alts := [], laidByText := true, laidKinds := [.data, .data, .pinned], laidTests := true, laidLooks := .later }
def PointNoneUptoCardSaid : Prop := Claim7.holds Tryd.pinned (.plain (OpenSpec.upto pointNoneSpec)) pointNoneUptoCard
end Rows
end Go.Proofs.YtpoagfldekppkaaDoor
