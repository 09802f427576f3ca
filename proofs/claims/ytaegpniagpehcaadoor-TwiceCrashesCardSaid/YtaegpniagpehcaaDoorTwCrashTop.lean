/-
  TwiceCrashes: the walk, for arguments as they come in.
-/
import Derived.Test.YtaegpniagpehcaaDoorTwCrashLaw
import Derived.Test.YtaegpniagpehcaaDoorTwArgs
namespace Go.Proofs.YtaegpniagpehcaaDoor
open Go.RowKit
theorem u8_nat {z : Int} (h : (Lit.int .u8 z).wf = true) : ∃ n : Nat, z = (n : Int) ∧ n ≤ 255 := by
  simp [Lit.wf, IntKind.min, IntKind.max, IntKind.signed, IntKind.bits] at h
  exact ⟨z.toNat, by omega, by omega⟩
theorem twiceCrashes_top (la : Option Addr) (l : List PgV) (lc : Nat) (ar ag : Int) (ka : Option Addr) (ks : List Int) (kc : Nat) (oa : Option Addr) (ol : List Int) (oc : Nat) (w : World)
    (har : (Lit.int .u8 ar).wf = true) (hag : (Lit.int .u8 ag).wf = true)
    (hll : l.length ≤ maxLen) (hlz : ∀ i, (l.getD i noPg).l.length ≤ maxLen) (hla : PgsAt w la l) (hlc : l.length ≤ lc)
    (hkl : ks.length ≤ maxLen) (hkw : ∀ z ∈ ks, (Lit.int .i64 z).wf = true) (hk : IntsAt w ka ks) (hol : ol.length ≤ maxLen) (how : ∀ z ∈ ol, (Lit.int .i64 z).wf = true) (ho : IntsAt w oa ol) (ht : Tab w) :
    Calls Tryd.prog 3 #[.slice la l.length lc, .int .u8 ar, .int .u8 ag, .slice ka ks.length kc, .slice oa ol.length oc] w fun x w' => x = .returned (.bool true) ∧ Below w.heap.size w w' := by
  obtain ⟨n1, rfl, h1⟩ := u8_nat har
  obtain ⟨n2, rfl, h2⟩ := u8_nat hag
  exact twiceCrashes_walk la l lc n1 n2 ka ks kc oa ol oc w hll hlz hla hlc h1 h2 hkl hkw hk hol how ho ht
end Go.Proofs.YtaegpniagpehcaaDoor
