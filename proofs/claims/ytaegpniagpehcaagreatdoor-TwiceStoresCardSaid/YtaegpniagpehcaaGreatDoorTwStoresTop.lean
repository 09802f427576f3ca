/-
  TwiceStores: the walk, for arguments as they come in.
-/
import Derived.Test.YtaegpniagpehcaaGreatDoorTwStoresLaw
namespace Go.Proofs.YtaegpniagpehcaaGreatDoor
open Go.RowKit
theorem u8_nat {z : Int} (h : (Lit.int .u8 z).wf = true) : ∃ n : Nat, z = (n : Int) ∧ n ≤ 255 := by
  simp [Lit.wf, IntKind.min, IntKind.max, IntKind.signed, IntKind.bits] at h
  exact ⟨z.toNat, by omega, by omega⟩
theorem twiceStores_top (nn : Int) (ga : Option Addr) (gs : List GrV) (gc : Nat) (mo : Int) (w : World) (hgl : gs.length ≤ maxLen) (hga : GrsAt w ga gs) (hmo : (Lit.int .u8 mo).wf = true) (ht : Tab w) :
    Calls Tryz.prog 3 #[.int .i64 nn, .slice ga gs.length gc, .int .u8 mo] w fun x w' => x = .returned (.bool true) ∧ Below w.heap.size w w' := by
  obtain ⟨n1, rfl, h1⟩ := u8_nat hmo
  exact twiceStores_walk nn ga gs gc n1 w hgl hga h1 ht
end Go.Proofs.YtaegpniagpehcaaGreatDoor
