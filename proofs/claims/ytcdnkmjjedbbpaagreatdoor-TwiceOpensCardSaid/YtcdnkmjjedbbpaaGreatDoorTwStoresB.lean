/-
  TwiceStores: what its walk meets of a device that lost nothing, and the state of its loop.
-/
import Derived.Test.YtcdnkmjjedbbpaaGreatDoorTwStores
import Derived.Test.YtcdnkmjjedbbpaaGreatDoorTwGroups
import Derived.Test.YtcdnkmjjedbbpaaGreatDoorTwc
import Derived.Test.YtcdnkmjjedbbpaaGreatDoorTpRef
import Derived.Test.YtcdnkmjjedbbpaaGreatDoorHvLoose
namespace Go.Proofs.YtcdnkmjjedbbpaaGreatDoor
open Go.RowKit
section
variable {w W : World} {D P L M n B T np R : Nat} {now : Nat → Pg}
theorem c_loose (h : Tk w W D P L M n B T np now .on) : Calls Tryz.prog 14 #[.pointer (some ⟨D, 0, none⟩)] W fun x w' => x = .returned (.slice none 0 0) ∧ Below W.heap.size W w' := by
  obtain ⟨g, hd, _⟩ := h.up
  obtain ⟨k, off, uses, armed, left, las, hv, _⟩ := hd.d
  exact Dv.loose_none hv
/-- The loop over the groups. -/
def LpS (w W : World) (D P L M T R cap np n B : Nat) : Prop := ∃ ps now, LpN w W R cap np ps now ∧ Tk w W D P L M n B T np now .on
end
theorem RowP.base {W : World} {B C : Nat} {v : Value} {ps : List PgV} (h : RowP W B v ps) (hC : C ≤ B) : RowP W C v ps := by
  obtain ⟨h1, h2⟩ := h
  refine ⟨h1, ?_⟩
  rcases h2 with h2 | ⟨g, cap, cur, hv, hb, r⟩
  · exact .inl h2
  · exact .inr ⟨g, cap, cur, hv, Nat.le_trans hC hb, r⟩
end Go.Proofs.YtcdnkmjjedbbpaaGreatDoor
