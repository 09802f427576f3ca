/-
  WORDS FOR quadrigaref03.Open.
-/
import Derived.Test.YtpfgdmjgeelobaaDoorFrRef
namespace Go.Proofs.YtpfgdmjgeelobaaDoor
open Go.RowKit Crc

theorem bw_set {w X : World} {b i : Nat} {v : Value} (h : Below w.heap.size w X) (hb : w.heap.size ≤ b) : Below w.heap.size w (X.setCell ⟨b, i, none⟩ v) := h.setCell hb v
theorem bw_drewN {w X : World} {n : Nat} (h : Below w.heap.size w X) : Below w.heap.size w (X.drewN n) := below_drewN h n

theorem frame_cells {w w9 : World} {o : Obj} {cs : Array Value} {T : TypeId} (h : Below ((w.alloc o).alloc (.cells cs T)).drew.heap.size ((w.alloc o).alloc (.cells cs T)).drew w9) :
    (∀ i, w9.cell? ⟨w.heap.size + 1, i, none⟩ = cs[i]?) ∧ (∀ i, w9.frozen? ⟨w.heap.size + 1, i, none⟩ = false) := by
  have := after_drew h
  rw [World.size_alloc] at this
  exact block_cells this (World.size_alloc w o).symm

def refOpenVal (s : ByteArray) : Value :=
  if frOk s then .tuple #[.agg #[.int .i64 (frE s), .int .i64 (frA s), .int .i64 (frG s), .string (frD s)], .bool true]
  else .tuple #[.agg #[.int .i64 0, .int .i64 0, .int .i64 0, .string ⟨#[]⟩], .bool false]
theorem refOpenVal_yes {s : ByteArray} (h : frOk s = true) : refOpenVal s = .tuple #[.agg #[.int .i64 (frE s), .int .i64 (frA s), .int .i64 (frG s), .string (frD s)], .bool true] := by
  unfold refOpenVal; rw [if_pos h]
theorem refOpenVal_no {s : ByteArray} (h : frOk s = false) : refOpenVal s = .tuple #[.agg #[.int .i64 0, .int .i64 0, .int .i64 0, .string ⟨#[]⟩], .bool false] := by
  unfold refOpenVal; rw [if_neg (by rw [h]; simp)]
theorem frN_head (s : ByteArray) (h : 0 < s.size) : frN s = (s[0]'h).toNat := by
  unfold frN
  have := take_snoc s 0 h
  simp only [List.take_zero, List.nil_append, Nat.zero_add] at this
  rw [this]; simp [beVal]
theorem refTake_at (t : ByteArray) (i k : Nat) (h : i + k ≤ t.size) (h1 : 1 ≤ k) (h8 : k ≤ 8) (hv : beVal ((t.data.toList.drop i).take k) ≤ 9223372036854775807) :
    refTakeVal (t.extract i t.size) (k : Int) = .tuple #[.int .i64 (beVal ((t.data.toList.drop i).take k)), .bool true] := by
  have hz : (t.extract i t.size).size = t.size - i := by rw [ByteArray.size_extract]; omega
  have hl : (t.extract i t.size).data.toList.take k = (t.data.toList.drop i).take k := by
    rw [extract_list, List.take_take]; congr 1; omega
  rw [refTakeVal_some (by rw [Int.toNat_natCast, hl, hz]; omega), Int.toNat_natCast, hl]
theorem refTake_not (t : ByteArray) (i k : Nat) (h : i + k ≤ t.size) (hv : ¬ beVal ((t.data.toList.drop i).take k) ≤ 9223372036854775807) :
    refTakeVal (t.extract i t.size) (k : Int) = .tuple #[.int .i64 0, .bool false] := by
  have hl : (t.extract i t.size).data.toList.take k = (t.data.toList.drop i).take k := by
    rw [extract_list, List.take_take]; congr 1; omega
  rw [refTakeVal_none (by rw [Int.toNat_natCast, hl]; omega)]
/-- What the two takes answer: the number, and true; nothing, false. -/
theorem refTake_or (t : ByteArray) (i : Nat) (h : i + 8 ≤ t.size) (hs : t.size ≤ 100000) : ∃ (v : Nat) (b : Bool), (∀ W, Calls Tryd.prog 31 #[.string (t.extract i t.size), .int .i64 8] W fun e w' => e = .returned (.tuple #[.int .i64 v, .bool b]) ∧ W = w') ∧
    (b = true → v = beVal ((t.data.toList.drop i).take 8)) ∧ (b = false → 9223372036854775807 < beVal ((t.data.toList.drop i).take 8)) ∧ v ≤ 9223372036854775807 := by
  by_cases hv : beVal ((t.data.toList.drop i).take 8) ≤ 9223372036854775807
  · refine ⟨beVal ((t.data.toList.drop i).take 8), true, fun W => ?_, fun _ => rfl, (fun h => by cases h), hv⟩
    have := refTake_any (t.extract i t.size) ((8 : Nat) : Int) W (by omega) (by rw [ByteArray.size_extract]; omega)
    rw [refTake_at t i 8 h (by omega) (by omega) hv] at this
    exact this
  · refine ⟨0, false, fun W => ?_, (fun h => by cases h), (fun _ => by omega), by omega⟩
    have := refTake_any (t.extract i t.size) ((8 : Nat) : Int) W (by omega) (by rw [ByteArray.size_extract]; omega)
    rw [refTake_not t i 8 h hv] at this
    exact this
end Go.Proofs.YtpfgdmjgeelobaaDoor
