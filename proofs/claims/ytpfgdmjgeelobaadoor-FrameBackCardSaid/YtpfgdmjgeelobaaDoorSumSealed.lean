/-
  WHAT IS SEALED IS OPENED; rows of two texts.
-/
import Derived.Test.YtpfgdmjgeelobaaDoorSumSeal
namespace Go.Proofs.YtpfgdmjgeelobaaDoor
open Go.RowKit Crc

theorem openRes_seal (l : List UInt8) : openRes (sealStr l) = (⟨l.toArray⟩, true) := by
  have h4 := laid_size l
  have h4d : (laidStr l).data.size = 4 := h4
  have hd : (sealStr l).data = l.toArray ++ (laidStr l).data := by unfold sealStr; rw [ByteArray.data_append]
  have hsz : (sealStr l).size = l.length + 4 := by
    show (sealStr l).data.size = _
    rw [hd, Array.size_append, h4d]; simp
  have h1 : (sealStr l).size - 4 = l.length := by omega
  have htake : (sealStr l).data.toList.take ((sealStr l).size - 4) = l := by
    rw [h1, hd, Array.toList_append]; simp
  have hx1 : (sealStr l).extract 0 ((sealStr l).size - 4) = ⟨l.toArray⟩ := by
    apply ByteArray.ext
    rw [h1, ByteArray.data_extract, hd]
    apply Array.toList_inj.1
    simp
  have hx2 : (sealStr l).extract ((sealStr l).size - 4) (sealStr l).size = laidStr l := by
    apply ByteArray.ext
    rw [ByteArray.data_extract, h1, hsz, hd]
    apply Array.toList_inj.1
    have : ((laidStr l).data.toList).length = 4 := by rw [Array.length_toList, h4d]
    simp
    rw [List.take_of_length_le (by omega)]
  have hs : isSealed (sealStr l) = true := by
    unfold isSealed
    rw [htake, hx2]
    simp [hsz]
  unfold openRes
  rw [if_pos hs, hx1]

theorem two_str (w : World) (p q : ByteArray) (T : TypeId) : StrsAt (w.alloc (.cells #[.string p, .string q] T)) (some ⟨w.heap.size, 0, none⟩) [p, q] :=
  .inr ⟨w.heap.size, 0, rfl, fun i hi => by
    match i, hi with
    | 0, _ => simp [World.cell?_alloc_at]
    | 1, _ => simp [World.cell?_alloc_at]⟩

theorem short_two (p q : ByteArray) (hp : p.size ≤ maxLen) (hq : q.size ≤ maxLen) : Short [p, q] := fun x hx => by
  simp only [List.mem_cons, List.not_mem_nil, or_false] at hx
  rcases hx with rfl | rfl <;> assumption
theorem seal_size (l : List UInt8) : (sealStr l).size = l.length + 4 := by
  show (sealStr l).data.size = _
  have : (sealStr l).data = l.toArray ++ (laidStr l).data := by unfold sealStr; rw [ByteArray.data_append]
  have h4 : (laidStr l).data.size = 4 := laid_size l
  rw [this, Array.size_append, h4]; simp

end Go.Proofs.YtpfgdmjgeelobaaDoor
