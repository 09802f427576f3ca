/-
  NARROWER THAN 'FOR EVERY INPUT', by the rows' own cells (each row's printed sentence says how): SumOf: laid · SumOpens: laid · SumTurned: laid · SumParts: laid.
  DERIVED. THE GIVEN ROWS OF THIS SEAT. 4 by the template 'for every input the law returns true; each argument reads behind the call as it read before'; 0 by the template 'total and deterministic' (their statements: YtcdnohgnmfaclaaDoorTotals.lean).
  GIVEN WITH THE SEED: the statements are not yours to turn. If you find one false, say at which input.
  Laid BY PROGRAM, IN A SANDBOX (cutbox-rows.mjs): the forced cells as the released guide's own fill.sh prints them over the translation 2e5a5fe544a56f58… (all of the seat's roots in one cut). By AI agents, Wed Nov 11 2026. No macro, syntax, notation, axiom, sorry.
-/
import Derived.Test.YtcdnohgnmfaclaaDoorChecked
import GoSem.Claim
import GoSem.ClaimJoined
import GoSem.ClaimMapViews
import Derived.JoinedTies
import Derived.KernelRfl
namespace Go.Proofs.YtcdnohgnmfaclaaDoor
/- THE CELL 'sum', in the pinned program and in every row, IS THE sha256 OF THE DUMP (.gsa) THAT YtcdnohgnmfaclaaDoorProg.lean LOADS. Nothing in Lean hashes anything: it is a label: what it is worth is what the hold of that sum in a sandbox is worth. -/
noncomputable def Tryd.pinned : Pinned := { name := "ytcdnohgnmfaclaadoor", sum := "2e5a5fe544a56f58c6c3135291cc19d1cdec06ad3539d72bd8b8a0fe9d516269", checked := Tryd.checked }
namespace Rows
def none {H : Type} : Left H := { results := [], args := [] }

/- WHAT THE LISTED PACKAGE-LEVEL VARIABLES READ AS WHEN THE CALL BEGINS. Each datum BY PROGRAM (the guide's laid-datum.mjs) off the statement by which the dump's own 'gosem.cut.vars' lays the variable. In a bare row this is a premise. The card (YtcdnohgnmfaclaaDoorCards.lean) ties it to the program's text. -/
def laid_quadriga_sum_nibbles {H : Type} : DataW H := .agg [.lit (.int .u32 0), .lit (.int .u32 498536548), .lit (.int .u32 997073096), .lit (.int .u32 651767980), .lit (.int .u32 1994146192), .lit (.int .u32 1802195444), .lit (.int .u32 1303535960), .lit (.int .u32 1342533948), .lit (.int .u32 3988292384), .lit (.int .u32 4027552580), .lit (.int .u32 3604390888), .lit (.int .u32 3412177804), .lit (.int .u32 2607071920), .lit (.int .u32 2262029012), .lit (.int .u32 2685067896), .lit (.int .u32 3183342108)]

/-- 'quadrigalaw02.SumOf': WHATEVER THE INPUT: true; the input reads as it did. -/
def sumOfSpec : ChangeSpec := { name := "sumOf", fn := fun _ => fun
  | [d] => { results := [.lit (.bool true)], args := [d] }
  | _ => none }
def sumOfRow : OpenClaim := { program := "ytcdnohgnmfaclaadoor", sum := "2e5a5fe544a56f58c6c3135291cc19d1cdec06ad3539d72bd8b8a0fe9d516269", func := "quadriga/quadrigalaw02.SumOf", spec := "sumOf", inPlace := ["internal/abi.NoEscape", "internal/bytealg.MakeNoZero"], named := ["quadriga/sum.nibbles"], apart := false, laid := [("quadriga/sum.nibbles", laid_quadriga_sum_nibbles)] }
def SumOfSaid : Prop := sumOfRow.holds Tryd.pinned (OpenSpec.ofChange sumOfSpec)

/-- ITS FALSE NEIGHBOUR: 'it returns false'. Refute it at one input. -/
def sumOfWrong : ChangeSpec := { name := "sumOf", fn := fun _ => fun
  | [d] => { results := [.lit (.bool false)], args := [d] }
  | _ => none }
def SumOfWrongFalsely : Prop := sumOfRow.holds Tryd.pinned (OpenSpec.ofChange sumOfWrong)

/-- 'quadrigalaw02.SumOpens': WHATEVER THE INPUT: true; the input reads as it did. -/
def sumOpensSpec : ChangeSpec := { name := "sumOpens", fn := fun _ => fun
  | [d] => { results := [.lit (.bool true)], args := [d] }
  | _ => none }
def sumOpensRow : OpenClaim := { program := "ytcdnohgnmfaclaadoor", sum := "2e5a5fe544a56f58c6c3135291cc19d1cdec06ad3539d72bd8b8a0fe9d516269", func := "quadriga/quadrigalaw02.SumOpens", spec := "sumOpens", inPlace := ["internal/abi.NoEscape", "internal/bytealg.MakeNoZero"], named := ["quadriga/sum.nibbles"], apart := false, laid := [("quadriga/sum.nibbles", laid_quadriga_sum_nibbles)] }
def SumOpensSaid : Prop := sumOpensRow.holds Tryd.pinned (OpenSpec.ofChange sumOpensSpec)

/-- ITS FALSE NEIGHBOUR: 'it returns false'. Refute it at one input. -/
def sumOpensWrong : ChangeSpec := { name := "sumOpens", fn := fun _ => fun
  | [d] => { results := [.lit (.bool false)], args := [d] }
  | _ => none }
def SumOpensWrongFalsely : Prop := sumOpensRow.holds Tryd.pinned (OpenSpec.ofChange sumOpensWrong)

/-- 'quadrigalaw02.SumTurned': WHATEVER THE INPUT: true; the input reads as it did. -/
def sumTurnedSpec : ChangeSpec := { name := "sumTurned", fn := fun _ => fun
  | [d1, d2, d3] => { results := [.lit (.bool true)], args := [d1, d2, d3] }
  | _ => none }
def sumTurnedRow : OpenClaim := { program := "ytcdnohgnmfaclaadoor", sum := "2e5a5fe544a56f58c6c3135291cc19d1cdec06ad3539d72bd8b8a0fe9d516269", func := "quadriga/quadrigalaw02.SumTurned", spec := "sumTurned", inPlace := ["internal/abi.NoEscape", "internal/bytealg.MakeNoZero"], named := ["quadriga/sum.nibbles"], apart := false, laid := [("quadriga/sum.nibbles", laid_quadriga_sum_nibbles)] }
def SumTurnedSaid : Prop := sumTurnedRow.holds Tryd.pinned (OpenSpec.ofChange sumTurnedSpec)

/-- ITS FALSE NEIGHBOUR: 'it returns false'. Refute it at one input. -/
def sumTurnedWrong : ChangeSpec := { name := "sumTurned", fn := fun _ => fun
  | [d1, d2, d3] => { results := [.lit (.bool false)], args := [d1, d2, d3] }
  | _ => none }
def SumTurnedWrongFalsely : Prop := sumTurnedRow.holds Tryd.pinned (OpenSpec.ofChange sumTurnedWrong)

/-- 'quadrigalaw02.SumParts': WHATEVER THE INPUT: true; the input reads as it did. -/
def sumPartsSpec : ChangeSpec := { name := "sumParts", fn := fun _ => fun
  | [d1, d2] => { results := [.lit (.bool true)], args := [d1, d2] }
  | _ => none }
def sumPartsRow : OpenClaim := { program := "ytcdnohgnmfaclaadoor", sum := "2e5a5fe544a56f58c6c3135291cc19d1cdec06ad3539d72bd8b8a0fe9d516269", func := "quadriga/quadrigalaw02.SumParts", spec := "sumParts", inPlace := ["internal/abi.NoEscape", "internal/bytealg.MakeNoZero"], named := ["quadriga/sum.nibbles"], apart := false, laid := [("quadriga/sum.nibbles", laid_quadriga_sum_nibbles)] }
def SumPartsSaid : Prop := sumPartsRow.holds Tryd.pinned (OpenSpec.ofChange sumPartsSpec)

/-- ITS FALSE NEIGHBOUR: 'it returns false'. Refute it at one input. -/
def sumPartsWrong : ChangeSpec := { name := "sumParts", fn := fun _ => fun
  | [d1, d2] => { results := [.lit (.bool false)], args := [d1, d2] }
  | _ => none }
def SumPartsWrongFalsely : Prop := sumPartsRow.holds Tryd.pinned (OpenSpec.ofChange sumPartsWrong)

/- THE SECOND FORM. 'bulk': how many values and letters a reading holds, each counted each time it is reached (what is shared counts as often as it is met; a slice's spare places count too). A statement '..UptoSaid' is the law's where the arguments, and the package variables that the reading takes, are together of bulk at most 1048576: NARROWER than '..Said'. Prove '..Said' where nothing that the law and all that it calls make is longer than what came in: it says more and counts as full. Else prove '..UptoSaid'. A law counts once. -/
mutual
def uptoBulk {H : Type} : DataW H → Nat
  | .lit (.string bytes) => bytes.length + 1
  | .lit _ => 1
  | .nil => 1
  | .ptr d => uptoBulk d + 1
  | .slice elems spare => uptoBulkAll elems + uptoBulkAll spare + 1
  | .agg parts => uptoBulkAll parts + 1
  | .iface _ d => uptoBulk d + 1
  | .map entries => uptoBulkEntries entries + 1
  | .held _ => 1
def uptoBulkAll {H : Type} : List (DataW H) → Nat
  | [] => 0
  | d :: r => uptoBulk d + uptoBulkAll r
def uptoBulkEntries {H : Type} : List (Lit × DataW H) → Nat
  | [] => 0
  | x :: r => uptoBulkEntry x + uptoBulkEntries r
def uptoBulkEntry {H : Type} : Lit × DataW H → Nat
  | (.string bytes, d) => bytes.length + uptoBulk d + 1
  | (_, d) => uptoBulk d + 1
 end
def uptoSmall : (H : Type) → List (DataW H) → Bool := fun _ ds => decide (uptoBulkAll ds ≤ 1048576)
def OpenSpec.upto (s : _root_.Go.ChangeSpec) : _root_.Go.OpenSpec := { _root_.Go.OpenSpec.ofChange s with cond := some uptoSmall }

/-- 'quadrigalaw02.SumOf', WHERE WHAT IT READS IS OF BULK AT MOST 1048576: true; the input reads as it did. -/
def sumOfUptoRow : OpenClaim := { program := "ytcdnohgnmfaclaadoor", sum := "2e5a5fe544a56f58c6c3135291cc19d1cdec06ad3539d72bd8b8a0fe9d516269", func := "quadriga/quadrigalaw02.SumOf", spec := "sumOf", inPlace := ["internal/abi.NoEscape", "internal/bytealg.MakeNoZero"], named := ["quadriga/sum.nibbles"], apart := false, laid := [("quadriga/sum.nibbles", laid_quadriga_sum_nibbles)], narrowed := true }
def SumOfUptoSaid : Prop := sumOfUptoRow.holds Tryd.pinned (OpenSpec.upto sumOfSpec)

/-- 'quadrigalaw02.SumOpens', WHERE WHAT IT READS IS OF BULK AT MOST 1048576: true; the input reads as it did. -/
def sumOpensUptoRow : OpenClaim := { program := "ytcdnohgnmfaclaadoor", sum := "2e5a5fe544a56f58c6c3135291cc19d1cdec06ad3539d72bd8b8a0fe9d516269", func := "quadriga/quadrigalaw02.SumOpens", spec := "sumOpens", inPlace := ["internal/abi.NoEscape", "internal/bytealg.MakeNoZero"], named := ["quadriga/sum.nibbles"], apart := false, laid := [("quadriga/sum.nibbles", laid_quadriga_sum_nibbles)], narrowed := true }
def SumOpensUptoSaid : Prop := sumOpensUptoRow.holds Tryd.pinned (OpenSpec.upto sumOpensSpec)

/-- 'quadrigalaw02.SumTurned', WHERE WHAT IT READS IS OF BULK AT MOST 1048576: true; the input reads as it did. -/
def sumTurnedUptoRow : OpenClaim := { program := "ytcdnohgnmfaclaadoor", sum := "2e5a5fe544a56f58c6c3135291cc19d1cdec06ad3539d72bd8b8a0fe9d516269", func := "quadriga/quadrigalaw02.SumTurned", spec := "sumTurned", inPlace := ["internal/abi.NoEscape", "internal/bytealg.MakeNoZero"], named := ["quadriga/sum.nibbles"], apart := false, laid := [("quadriga/sum.nibbles", laid_quadriga_sum_nibbles)], narrowed := true }
def SumTurnedUptoSaid : Prop := sumTurnedUptoRow.holds Tryd.pinned (OpenSpec.upto sumTurnedSpec)

/-- 'quadrigalaw02.SumParts', WHERE WHAT IT READS IS OF BULK AT MOST 1048576: true; the input reads as it did. -/
def sumPartsUptoRow : OpenClaim := { program := "ytcdnohgnmfaclaadoor", sum := "2e5a5fe544a56f58c6c3135291cc19d1cdec06ad3539d72bd8b8a0fe9d516269", func := "quadriga/quadrigalaw02.SumParts", spec := "sumParts", inPlace := ["internal/abi.NoEscape", "internal/bytealg.MakeNoZero"], named := ["quadriga/sum.nibbles"], apart := false, laid := [("quadriga/sum.nibbles", laid_quadriga_sum_nibbles)], narrowed := true }
def SumPartsUptoSaid : Prop := sumPartsUptoRow.holds Tryd.pinned (OpenSpec.upto sumPartsSpec)

end Rows
end Go.Proofs.YtcdnohgnmfaclaaDoor
