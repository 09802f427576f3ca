/-
  slices.Delete OF ONE NUMBER OF A BLOCK, AND OF ONE BLOCK OF A ROW OF BLOCKS: in place.
-/
import Derived.Test.YtjpllcdjiagjlaaSetSplit
namespace Go.Proofs.Ytjpllcdjiagjlaa
open Go.RowKit Go.Sort

theorem own_holds {α : Type} [Inhabited α] {enc : α → Value} {w : World} {B g n cap : Nat} {T : TypeId} {l : List α} (h : w.ownsRow B T 1 (.slice (some ⟨g, 0, none⟩) n cap) n (l.map enc)) : Holds enc w g 0 l.toArray := by
  obtain ⟨cur, _, _, _, _, _, hl, _, hf⟩ := own_block h
  have hl' : l.length = n := by simpa using hl
  intro j hj
  have hj' : j < l.length := by simpa using hj
  refine ⟨?_, by rw [Nat.zero_add]; exact hf j⟩
  rw [Nat.zero_add, h.cellAt j (by omega), List.getElem?_map, List.getElem?_eq_getElem hj']
  simp [hj']

theorem grownBy_put {α : Type} [Inhabited α] (enc : α → Value) {w : World} {g q : Nat} (d : Array α) : w.grownBy (putRow enc (Sort.ahead w q) g 0 d) (some g) := by
  refine ⟨rfl, rfl, rfl, by simp [putRow, mapBlock, Sort.ahead], fun k hk hne => ?_⟩
  have : g ≠ k := fun e => hne (by rw [e])
  simp [putRow, mapBlock, Sort.ahead, Array.getElem?_modify, this]

theorem own_put {α : Type} [Inhabited α] {enc : α → Value} {w : World} {B g n cap q k : Nat} {T : TypeId} {l m : List α} (h : w.ownsRow B T 1 (.slice (some ⟨g, 0, none⟩) n cap) n (l.map enc)) (hm : m.length = n) (hk : k ≤ n) :
    (putRow enc (Sort.ahead w q) g 0 m.toArray).ownsRow B T 1 (.slice (some ⟨g, 0, none⟩) k cap) k ((m.take k).map enc) := by
  obtain ⟨cur, hB, hg, hn, hcap, hs, hl, _, _⟩ := own_block h
  have hl' : l.length = n := by simpa using hl
  have hH := own_holds h
  have hg' : (putRow enc (Sort.ahead w q) g 0 m.toArray).heap[g]? = some (.cells (putCells enc 0 m.toArray cur) T (0, 0)) := by
    simp [putRow, mapBlock, Sort.ahead, Array.getElem?_modify, hg, onCells]
  have hlk : ((m.take k).map enc).length = k := by rw [List.length_map, List.length_take]; omega
  have := own_cells (xs := (m.take k).map enc) hB hg' (by simp [putCells, hs]) (by omega) hcap (fun j hj => by
    rw [hlk] at hj
    have hH2 : Holds enc (Sort.ahead w q) g 0 l.toArray := hH
    have hc := cell?_putRow enc (Sort.ahead w q) g 0 l.toArray m.toArray hH2 (by simp; omega) j (by simp; omega)
    rw [Nat.zero_add] at hc
    rw [hc, List.getElem?_map, List.getElem?_take, if_pos hj, List.getElem?_eq_getElem (by omega)]
    simp [show j < m.length by omega])
  rw [hlk] at this
  exact this

theorem take_del {α : Type} (l : List α) (i : Nat) (z : α) (hi : i < l.length) : (l.take i ++ l.drop (i + 1) ++ [z]).take (l.length - 1) = l.take i ++ l.drop (i + 1) := by
  have : (l.take i ++ l.drop (i + 1)).length = l.length - 1 := by rw [List.length_append, List.length_take, List.length_drop]; omega
  rw [List.take_append_of_le_length (by omega), List.take_of_length_le (by omega)]

/-- One number less. -/
theorem delInt_any (b : Blk) (i B : Nat) (w : World) (h : w.ownsRow B 3 1 b.val b.xs.length (ints b.xs)) (hi : i < b.xs.length) :
    Calls Try.prog 31 #[b.val, .int .i64 i, .int .i64 (i + 1)] w fun e w' => ∃ b' : Blk, e = .returned b'.val ∧ b'.g = b.g ∧ b'.cap = b.cap ∧ b'.xs = b.xs.take i ++ b.xs.drop (i + 1) ∧
      w'.ownsRow B 3 1 b'.val b'.xs.length (ints b'.xs) ∧ w.grownBy w' (some b.g) := by
  obtain ⟨cur, hB, hg, hn, hcap, hs, hl, _, _⟩ := own_block h
  have hd := Try.slices_Delete_int_arr b.g 0 b.cap i (i + 1) b.xs.toArray w (own_holds h) (by simpa using hn) (by unfold maxLen at hcap; omega) (by omega) (by simp; omega)
  have hsz : b.xs.toArray.size = b.xs.length := by simp
  rw [hsz] at hd
  refine hd.mono ?_
  rintro e w' ⟨rfl, q, rfl⟩
  have hr : List.replicate (i + 1 - i) (0 : Int) = [0] := by rw [show i + 1 - i = 1 from by omega]; rfl
  have hlen : (b.xs.take i ++ b.xs.drop (i + 1)).length = b.xs.length - 1 := by rw [List.length_append, List.length_take, List.length_drop]; omega
  rw [hr]
  have hp := own_put (q := q) (k := b.xs.length - 1) (m := b.xs.toArray.toList.take i ++ b.xs.toArray.toList.drop (i + 1) ++ [0]) h (by rw [List.length_append, List.length_append, List.length_take, List.length_drop]; simp; omega) (by omega)
  refine ⟨⟨b.g, b.cap, b.xs.take i ++ b.xs.drop (i + 1)⟩, ?_, rfl, rfl, rfl, ?_, grownBy_put _ _⟩
  · simp only [Blk.val]; rw [hlen, show b.xs.length - (i + 1 - i) = b.xs.length - 1 from by omega]
  · simp only [Blk.val]; rw [hlen]
    have e : ((b.xs.toArray.toList.take i ++ b.xs.toArray.toList.drop (i + 1) ++ [0]).take (b.xs.length - 1)) = b.xs.take i ++ b.xs.drop (i + 1) := take_del b.xs i 0 hi
    rw [e] at hp
    exact hp

def encS (x : Option Addr × Nat × Nat) : Value := .slice x.1 x.2.1 x.2.2
def Blk.tri (b : Blk) : Option Addr × Nat × Nat := (some ⟨b.g, 0, none⟩, b.xs.length, b.cap)
theorem tri_val (bl : List Blk) : (bl.map Blk.tri).map encS = bl.map Blk.val := by rw [List.map_map]; rfl

/-- One block less. -/
theorem delRow_any (G C i B : Nat) (bl : List Blk) (w : World) (h : w.ownsRow B 22 1 (.slice (some ⟨G, 0, none⟩) bl.length C) bl.length (bl.map Blk.val)) (hi : i < bl.length) :
    Calls Try.prog 32 #[.slice (some ⟨G, 0, none⟩) bl.length C, .int .i64 i, .int .i64 (i + 1)] w fun e w' => e = .returned (.slice (some ⟨G, 0, none⟩) (bl.length - 1) C) ∧
      w'.ownsRow B 22 1 (.slice (some ⟨G, 0, none⟩) (bl.length - 1) C) (bl.length - 1) ((bl.take i ++ bl.drop (i + 1)).map Blk.val) ∧ w.grownBy w' (some G) := by
  obtain ⟨cur, hB, hg, hn, hcap, hs, hl, _, _⟩ := own_block h
  obtain ⟨i0, hi0, _, hzs, _⟩ := info_parts infoR
  rw [← tri_val] at h
  have hd := Try.slices_Delete_f32 encS (fun x => rfl) (none, 0, 0) Try.zeroValue22 i0 hi0 hzs G 0 C i (i + 1) (bl.map Blk.tri).toArray w (own_holds h) (by simpa using hn) (by unfold maxLen at hcap; omega) (by omega) (by simp; omega)
  have hsz : (bl.map Blk.tri).toArray.size = bl.length := by simp
  rw [hsz] at hd
  refine hd.mono ?_
  rintro e w' ⟨rfl, q, rfl⟩
  have hr : List.replicate (i + 1 - i) ((none, 0, 0) : Option Addr × Nat × Nat) = [(none, 0, 0)] := by rw [show i + 1 - i = 1 from by omega]; rfl
  rw [hr]
  have hp := own_put (q := q) (k := bl.length - 1) (m := (bl.map Blk.tri).toArray.toList.take i ++ (bl.map Blk.tri).toArray.toList.drop (i + 1) ++ [(none, 0, 0)]) h (by rw [List.length_append, List.length_append, List.length_take, List.length_drop]; simp; omega) (by omega)
  refine ⟨by rw [show i + 1 - i = 1 from by omega], ?_, grownBy_put _ _⟩
  have e : ((bl.map Blk.tri).toArray.toList.take i ++ (bl.map Blk.tri).toArray.toList.drop (i + 1) ++ [(none, 0, 0)]).take (bl.length - 1) = (bl.take i ++ bl.drop (i + 1)).map Blk.tri := by
    have := take_del (bl.map Blk.tri) i (none, 0, 0) (by simpa using hi)
    rw [List.length_map] at this
    rw [List.map_append, List.map_take, List.map_drop]
    exact this
  rw [e, tri_val] at hp
  exact hp
end Go.Proofs.Ytjpllcdjiagjlaa
