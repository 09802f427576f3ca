/-
  WORDS FOR THE RECORDS' SEAT: cells that stay, texts in rows.
-/
import Derived.Test.YtlggbbaigcnpjaaDoorRcChanged
import Derived.WalkKit
import Derived.Laws.BitsAllLaws
import Derived.Laws.OwnMore
import Derived.BigQuiet
import Derived.Deep.RegionHeld3
import Derived.Deep.QuietTactic
namespace Go.Proofs.YtlggbbaigcnpjaaDoor
open Go.RowKit

theorem cell_lt {w : World} {b off : Nat} {v : Value} (h : w.cell? ⟨b, off, none⟩ = some v) : b < w.heap.size := block_lt (p := ⟨b, off, none⟩) h
theorem keep_drew {W : World} {p : Addr} {v : Value} (hc : W.cell? p = some v) : W.drew.cell? p = some v := hc
def StrsAt (w : World) (a : Option Addr) (ss : List ByteArray) : Prop :=
  ss = [] ∨ ∃ b off, a = some ⟨b, off, none⟩ ∧ ∀ i, i < ss.length → w.cell? ⟨b, off + i, none⟩ = some (.string (ss.getD i ByteArray.empty))
def joined (ss : List ByteArray) : List UInt8 := ss.flatMap fun s => s.data.toList
theorem ret_str {a b : ByteArray} (h : a = b) : Ending.returned (.string a) = .returned (.string b) := by rw [h]
end Go.Proofs.YtlggbbaigcnpjaaDoor
