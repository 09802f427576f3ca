/-
  THE CONTRACTS OF sum.Laid AND quadrigaref02.Laid: the sum's four bytes, the lowest first.
-/
import Derived.Test.YtgkpbchpjgkblaaDoorSumRef
import Derived.LoopN
namespace Go.Proofs.YtgkpbchpjgkblaaDoor
open Go.RowKit Crc

/-- string(b) of four bytes in the block that was laid last. -/
theorem four_bytes (T : TypeId) (x0 x1 x2 x3 : Int) (W : World) :
    (convert 58 9 (.slice (some ⟨W.heap.size, 0, none⟩) 4 4)).run Tryd.prog (W.alloc (.cells #[.int .u8 x0, .int .u8 x1, .int .u8 x2, .int .u8 x3] T)) =
      .ok (.string (strOfNums [x0, x1, x2, x3])) (W.alloc (.cells #[.int .u8 x0, .int .u8 x1, .int .u8 x2, .int .u8 x3] T)) := by
  refine run_convert_bytes_arg _ 58 5 Tryd.underlying58 Tryd.underlying5 _ _ _ _ [x0, x1, x2, x3] rfl ?_ 9 Tryd.underlying9
  intro i hi
  match i, hi with
  | 0, _ => simp [World.cell?_alloc_at]
  | 1, _ => simp [World.cell?_alloc_at]
  | 2, _ => simp [World.cell?_alloc_at]
  | 3, _ => simp [World.cell?_alloc_at]

/-- The sum of bytes, laid: the lowest byte first. -/
def laidStr (l : List UInt8) : ByteArray := strOfNums [((crc l).toNat : Int) % 256, ((crc l).toNat : Int) / 256 % 256, ((crc l).toNat : Int) / 65536 % 256, ((crc l).toNat : Int) / 16777216]

theorem ret_str {a b : ByteArray} (h : a = b) : Ending.returned (.string a) = .returned (.string b) := by rw [h]

set_option maxHeartbeats 400000 in
theorem laid_any (a : Option Addr) (ss : List ByteArray) (cap : Nat) (w : World) (hs : Short ss) (hn : ss.length ≤ maxLen) (ha : StrsAt w a ss) (ht : Tab w) :
    Calls Tryd.prog 57 #[.slice a ss.length cap] w fun e w' => e = .returned (.string (laidStr (joined ss))) ∧ Below w.heap.size w w' := by
  have kc := fun x0 x1 x2 x3 W => four_bytes 105 x0 x1 x2 x3 W
  go_enter Tryd.func57, Tryd.ntmps57
  go_wp2_with (go_at_call 67; refine (of_any a ss cap _ hs hn ha ht).mono ?_; rintro e w' ⟨rfl, rfl⟩)
  refine wp_loop_rounds 5 ?_
  rw [rounds_succ]; go_wp2
  rw [rounds_succ]; go_wp2
  rw [rounds_succ]; go_wp2
  rw [rounds_succ]; go_wp2
  rw [rounds_succ]; go_wp2
  go_ret
  exact ⟨ret_str rfl, (Below.refl _ _).alloc (Nat.le_refl _) _⟩

set_option maxHeartbeats 400000 in
theorem refLaid_any (s : ByteArray) (w : World) (hs : s.size ≤ maxLen) :
    Calls Tryd.prog 33 #[.string s] w fun e w' => e = .returned (.string (laidStr s.data.toList)) ∧ Below w.heap.size w w' := by
  have kc := fun x0 x1 x2 x3 W => four_bytes 5 x0 x1 x2 x3 W
  go_enter Tryd.func33, Tryd.ntmps33
  go_wp2_with (go_at_call 52; refine (refSum_any s _ hs).mono ?_; rintro e w' ⟨rfl, rfl⟩)
  go_ret
  exact ⟨ret_str rfl, (Below.refl _ _).alloc (Nat.le_refl _) _⟩

/-! ### what is there stays there -/
theorem cell_lt {w : World} {b off : Nat} {v : Value} (h : w.cell? ⟨b, off, none⟩ = some v) : b < w.heap.size := by
  rcases Nat.lt_or_ge b w.heap.size with h1 | h1
  · exact h1
  · simp [World.cell?, Array.getElem?_eq_none h1] at h
theorem Tab.below {w w' : World} (h : Tab w) (hb : Below w.heap.size w w') : Tab w' := fun k hk => by
  have h0 := cell_lt (h k hk)
  rw [hb.cell (p := ⟨1, k, none⟩) h0]; exact h k hk
theorem StrsAt.below {w w' : World} {a : Option Addr} {ss : List ByteArray} (h : StrsAt w a ss) (hb : Below w.heap.size w w') : StrsAt w' a ss := by
  rcases h with h | ⟨b, off, e, h⟩
  · exact .inl h
  · refine .inr ⟨b, off, e, fun i hi => ?_⟩
    have h0 := cell_lt (h i hi)
    rw [hb.cell (p := ⟨b, off + i, none⟩) h0]; exact h i hi
end Go.Proofs.YtgkpbchpjgkblaaDoor
