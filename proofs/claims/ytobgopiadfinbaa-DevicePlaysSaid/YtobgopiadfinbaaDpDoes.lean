/-
  LAW 05's does: any act.
-/
import Derived.Test.YtobgopiadfinbaaDpWrite
import Derived.Test.YtobgopiadfinbaaDpSync
import Derived.Test.YtobgopiadfinbaaDpRead2
import Derived.Test.YtobgopiadfinbaaDpArm
import Derived.Test.YtobgopiadfinbaaDpPut2
import Derived.Test.YtobgopiadfinbaaDpCrash
namespace Go.Proofs.Ytobgopiadfinbaa
open Go.RowKit
theorem does_any {W : World} {D P L M n c MB PB gl gn : Nat} {p : Pn} {sb : Option Nat} (h : Side W D P L M n c MB PB p gl gn sb) (hc : c ≤ 900) (x : Da) (hx : ArgOk W x [D, P, L, M, MB, gl, gn, PB]) :
    Calls Try.prog 8 #[.pointer (some ⟨D, 0, none⟩), .pointer (some ⟨MB, 0, none⟩), .pointer (some ⟨PB, 0, none⟩), .agg x.cells] W (DoP W D P L M n c MB PB gl gn sb) := by
  by_cases h0 : x.k = 0
  · exact does_write h hc x hx h0
  by_cases h1 : x.k = 1
  · exact does_sync h hc x hx h1
  by_cases h2 : x.k = 2
  · exact does_read h hc x hx h2
  by_cases h3 : x.k = 3
  · exact does_arm h hc x hx h3
  by_cases h4 : x.k = 4
  · exact does_crash h hc x hx h4
  · exact does_put h hc x hx ⟨h0, h1, h2, h3, h4⟩
end Go.Proofs.Ytobgopiadfinbaa
