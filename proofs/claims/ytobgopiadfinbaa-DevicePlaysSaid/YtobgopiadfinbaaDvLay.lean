/-
  THE CONTRACT OF device.lay: a sector that begins with texts, or that they have more bytes than it.
-/
import Derived.Test.YtobgopiadfinbaaRows
import Derived.ProofKit
import Derived.OpenShut
import Derived.WalkSpells
import Derived.WalkKit
import Derived.Lib.Hide
import Derived.Deep.MidRow
import Derived.Lib.BufferWrite
import Derived.Deep.WholeRow
namespace Go.Proofs.Ytobgopiadfinbaa
open Go.RowKit

/-- A sector's bytes, as cells. -/
def secC (l : List UInt8) : List Value := Lib.byteCells l
def secV (l : List UInt8) : Value := .agg (secC l).toArray
def pad (l : List UInt8) : List UInt8 := l ++ List.replicate (64 - l.length) 0
theorem pad_len {l : List UInt8} (h : l.length ≤ 64) : (pad l).length = 64 := by
  unfold pad; rw [List.length_append, List.length_replicate]; omega
theorem secC_len (l : List UInt8) : (secC l).length = l.length := Lib.byteCells_length l
theorem block_lt {w : World} {p : Addr} {v : Value} (h : w.cell? p = some v) : p.block < w.heap.size := by
  rcases Nat.lt_or_ge p.block w.heap.size with h1 | h1
  · exact h1
  · unfold World.cell? at h
    rw [Array.getElem?_eq_none h1] at h
    cases h
theorem hp_new {W : World} {o : Obj} {n : Nat} (h : n = W.heap.size) : (W.alloc o).heap[n]? = some o := by
  subst h
  show (W.heap.push o)[W.heap.size]? = some o
  simp
theorem hp_old {W : World} {o : Obj} {n : Nat} {x : Obj} (h : W.heap[n]? = some x) : (W.alloc o).heap[n]? = some x := by
  have hlt : n < W.heap.size := by
    rcases Nat.lt_or_ge n W.heap.size with h1 | h1
    · exact h1
    · rw [Array.getElem?_eq_none h1] at h; cases h
  show (W.heap.push o)[n]? = some x
  rw [Array.getElem?_push, if_neg (by omega)]; exact h
/-- A slice of texts. -/
def StrsAt (w : World) (a : Option Addr) (ss : List ByteArray) : Prop :=
  ss = [] ∨ ∃ b off, a = some ⟨b, off, none⟩ ∧ ∀ i, i < ss.length → w.cell? ⟨b, off + i, none⟩ = some (.string (ss.getD i ByteArray.empty))
def joined (ss : List ByteArray) : List UInt8 := ss.flatMap fun s => s.data.toList
theorem StrsAt.cell {w : World} {a : Option Addr} {ss : List ByteArray} (h : StrsAt w a ss) {k : Nat} (hk : k < ss.length) : ∃ b off, a = some ⟨b, off, none⟩ ∧ w.cell? ⟨b, off + k, none⟩ = some (.string (ss.getD k ByteArray.empty)) := by
  rcases h with rfl | ⟨b, off, e, h⟩
  · simp at hk
  · exact ⟨b, off, e, h k hk⟩
theorem joined_take (ss : List ByteArray) (j : Nat) (h : j < ss.length) : joined (ss.take (j + 1)) = joined (ss.take j) ++ (ss.getD j ByteArray.empty).data.toList := by
  rw [List.take_succ_eq_append_getElem h]
  unfold joined
  rw [List.flatMap_append]
  simp [List.getD_eq_getElem?_getD, h]
theorem joined_le (ss : List ByteArray) (j : Nat) : (joined (ss.take j)).length ≤ (joined ss).length := by
  have h : ss = ss.take j ++ ss.drop j := (List.take_append_drop j ss).symm
  have h2 : (joined ss).length = (joined (ss.take j)).length + (joined (ss.drop j)).length := by
    conv => lhs; rw [h]
    unfold joined
    rw [List.flatMap_append, List.length_append]
  omega
theorem ba_len (s : ByteArray) : s.data.toList.length = s.size := Array.length_toList
/-- The state of lay's loop: what is laid so far; the answer's variable is empty still. -/
structure LaySt (w W : World) (l : List UInt8) : Prop where
  res : W.heap[w.heap.size]? = some (.cells (secC (pad [])).toArray 66 (0, 0))
  row : W.heap[w.heap.size + 1]? = some (.cells (secC (pad l)).toArray 66 (0, 0))
  bel : Below w.heap.size w W
theorem LaySt.start (w : World) : LaySt w ((w.alloc (.cells (secC (pad [])).toArray 66)).alloc (.cells (secC (pad [])).toArray 66)) [] where
  res := hp_old (hp_new rfl)
  row := hp_new (by rw [World.size_alloc])
  bel := ((Below.refl _ _).alloc (Nat.le_refl _) _).alloc (by rw [World.size_alloc]; omega) _
/-- Copied behind what is laid. -/
theorem pad_copy (l : List UInt8) (s : List UInt8) (h : l.length + s.length ≤ 64) :
    (secC (pad l)).toArray.toList.take l.length ++ Lib.byteCells s ++ (secC (pad l)).toArray.toList.drop (l.length + s.length) = secC (pad (l ++ s)) := by
  show (secC (pad l)).take l.length ++ secC s ++ (secC (pad l)).drop (l.length + s.length) = secC (pad (l ++ s))
  unfold secC Lib.byteCells
  rw [← List.map_take, ← List.map_drop, ← List.map_append, ← List.map_append]
  congr 1
  unfold pad
  have e : 64 - l.length - (l.length + s.length - l.length) = 64 - (l.length + s.length) := by omega
  rw [List.take_left, List.drop_append, List.drop_of_length_le (by omega), List.nil_append, List.drop_replicate, e, List.length_append]
theorem LaySt.copied {w W : World} {l : List UInt8} (h : LaySt w W l) (hl : l.length ≤ 64) (s : ByteArray) (hs : l.length + s.size ≤ 64) (ty : TypeId) :
    (Builtin.copy_ #[70, 9] ty #[.slice (some ⟨w.heap.size + 1, l.length, none⟩) (64 - l.length) (64 - l.length), .string s]).run Try.prog W =
      .ok (goInt s.size) (W.setRow (w.heap.size + 1) (secC (pad (l ++ s.data.toList))).toArray) := by
  have hz : (secC (pad l)).toArray.size = 64 := by rw [List.size_toArray, secC_len, pad_len hl]
  have hr := Lib.run_copy_row_string (P := Try.prog) W 70 9 ty 5 (w.heap.size + 1) l.length (64 - l.length) (64 - l.length) s _ _ Try.underlying70 (by kernel_rfl) h.row (by omega) (by rw [hz]; exact hs)
  rw [hr]
  have hp := pad_copy l s.data.toList (by rw [ba_len]; exact hs)
  rw [ba_len] at hp
  rw [hp]
theorem setRow_old {W : World} {g k : Nat} {cs : Array Value} (h : g ≠ k) : (W.setRow g cs).heap[k]? = W.heap[k]? := by
  show (W.heap.modify g _)[k]? = W.heap[k]?
  rw [Array.getElem?_modify, if_neg h]
theorem LaySt.next {w W : World} {l : List UInt8} (h : LaySt w W l) (m : List UInt8) : LaySt w (W.setRow (w.heap.size + 1) (secC (pad m)).toArray) m where
  res := by rw [setRow_old (by omega)]; exact h.res
  row := setRow_heap _ _ _ _ _ _ h.row
  bel := by
    refine h.bel.trans ⟨rfl, rfl, rfl, ?_, fun k hk => setRow_old (by omega)⟩
    show W.heap.size ≤ (W.heap.modify _ _).size
    rw [Array.size_modify]; exact Nat.le_refl _
set_option maxRecDepth 100000 in
/-- A sector's rest as a slice, and what is copied into it. -/
theorem LaySt.part {w W : World} {l : List UInt8} (h : LaySt w W l) (hl : l.length ≤ 64) (s : ByteArray) (hs : l.length + s.size ≤ 64) :
    ∃ A W', (Instr.sliceAt 66 (.pointer (some ⟨w.heap.size + 1, 0, none⟩)) (some (.int .i64 (l.length : Int))) none none).run Try.prog W = .ok (.slice (some A) (64 - l.length) (64 - l.length)) W ∧
      (∀ ty, (Builtin.copy_ #[70, 9] ty #[.slice (some A) (64 - l.length) (64 - l.length), .string s]).run Try.prog W = .ok (.int .i64 (s.size : Int)) W') ∧ LaySt w W' (l ++ s.data.toList) := by
  have hA : Try.prog.arrayLen 66 = 64 := by kernel_rfl
  have hsl := run_sliceAt_array_l (P := Try.prog) W 66 ⟨w.heap.size + 1, 0, none⟩ (by kernel_rfl) .i64 (l.length : Int) (by omega) (by rw [hA]; omega)
  rw [hA] at hsl
  have he : (sizeOf (Try.prog.elem 66)).run Try.prog W = .ok 1 W := Try.sizeOf5 W
  rw [he] at hsl
  simp only [Result.andThen, Int.toNat_natCast, slicedAt] at hsl
  by_cases h64 : l.length = 64
  · have hs0 : s.size = 0 := by omega
    have hn : l ++ s.data.toList = l := by
      have : s.data.toList = [] := List.length_eq_zero_iff.1 (by rw [ba_len]; exact hs0)
      rw [this, List.append_nil]
    refine ⟨_, W, hsl, fun ty => ?_, by rw [hn]; exact h⟩
    exact Lib.run_copy_empty_string (P := Try.prog) W 70 9 ty 5 _ _ _ s Try.underlying70 (by kernel_rfl) hs0 |>.trans (by rw [hs0]; rfl)
  · have ha : (if (64 : Nat) = l.length then (⟨w.heap.size + 1, 0, none⟩ : Addr) else (⟨w.heap.size + 1, 0, none⟩ : Addr).add (l.length * 1)) = ⟨w.heap.size + 1, l.length, none⟩ := by
      rw [if_neg (by omega), Addr.add_mid]; simp
    refine ⟨⟨w.heap.size + 1, l.length, none⟩, _, ?_, fun ty => h.copied hl s hs ty, h.next _⟩
    rw [← ha]; exact hsl
/-- What lay answers. -/
def layV (ss : List ByteArray) : Value := if (joined ss).length ≤ 64 then .tuple #[secV (pad (joined ss)), .bool true] else .tuple #[secV (pad []), .bool false]
theorem infoK : (Try.prog.info? 66).map (fun i => (i.zero, i.size)) = some (some (secV (pad [])), 64) := by kernel_rfl
theorem secV_load {W : World} {b : Nat} {l : List UInt8} (h : W.heap[b]? = some (.cells (secC (pad l)).toArray 66 (0, 0))) (hl : l.length ≤ 64) :
    (Instr.loadAt 66 (.pointer (some ⟨b, 0, none⟩))).run Try.prog W = .ok (secV (pad l)) W := by
  have hr : W.rangeAt b 0 (secC (pad l)) := fun j v hv => by
    rw [Nat.zero_add, cell_of_row W b j _ _ _ h]; simpa using hv
  exact run_loadAt_mid W b 0 66 (secC (pad l)) _ hr Try.underlying66 rfl (by
    rw [secC_len, pad_len hl]; exact (zero_of_info infoK).2)
theorem secV_one (l : List UInt8) : (secC l).toArray.all (·.oneCell') = true := all_oneCell_toArray (Lib.byteCells_one l)
theorem sec_info {l : List UInt8} (hl : l.length ≤ 64) : (Try.prog.info? 66).map (·.size) = some (secC (pad l)).toArray.size := by
  rw [List.size_toArray, secC_len, pad_len hl]; exact (zero_of_info infoK).2
/-- The answer's variable is written. -/
theorem LaySt.answer {w W : World} {l : List UInt8} (h : LaySt w W l) (C : Array Value) (m : List UInt8) (hm : m.length ≤ 64) (hC : C = (secC (pad m)).toArray) :
    (secC (pad ([] : List UInt8))).toArray.size = C.size ∧ C.all (·.oneCell') = true ∧ (Try.prog.info? 66).map (·.size) = some C.size ∧
      (loadVar 66 ⟨w.heap.size, 0, none⟩).run Try.prog (W.setRow w.heap.size C) = .ok (.agg C) (W.setRow w.heap.size C) ∧ Below w.heap.size w (W.setRow w.heap.size C) := by
  subst hC
  have hz : (secC (pad ([] : List UInt8))).toArray.size = (secC (pad m)).toArray.size := by
    rw [List.size_toArray, List.size_toArray, secC_len, secC_len, pad_len hm, pad_len (by decide)]
  have hr := setRow_heap W w.heap.size _ (secC (pad m)).toArray _ _ h.res
  refine ⟨hz, secV_one _, sec_info hm, ?_, ?_⟩
  · exact run_loadVar_row _ w.heap.size 66 66 _ (0, 0) _ hr Try.underlying66 rfl (sec_info hm)
  · refine h.bel.trans ⟨rfl, rfl, rfl, ?_, fun k hk => setRow_old (by omega)⟩
    show W.heap.size ≤ (W.heap.modify _ _).size
    rw [Array.size_modify]; exact Nat.le_refl _
def zeroC : Array Value := #[.int .u8 0, .int .u8 0, .int .u8 0, .int .u8 0, .int .u8 0, .int .u8 0, .int .u8 0, .int .u8 0, .int .u8 0, .int .u8 0, .int .u8 0, .int .u8 0, .int .u8 0, .int .u8 0, .int .u8 0, .int .u8 0, .int .u8 0, .int .u8 0, .int .u8 0, .int .u8 0, .int .u8 0, .int .u8 0, .int .u8 0, .int .u8 0, .int .u8 0, .int .u8 0, .int .u8 0, .int .u8 0, .int .u8 0, .int .u8 0, .int .u8 0, .int .u8 0, .int .u8 0, .int .u8 0, .int .u8 0, .int .u8 0, .int .u8 0, .int .u8 0, .int .u8 0, .int .u8 0, .int .u8 0, .int .u8 0, .int .u8 0, .int .u8 0, .int .u8 0, .int .u8 0, .int .u8 0, .int .u8 0, .int .u8 0, .int .u8 0, .int .u8 0, .int .u8 0, .int .u8 0, .int .u8 0, .int .u8 0, .int .u8 0, .int .u8 0, .int .u8 0, .int .u8 0, .int .u8 0, .int .u8 0, .int .u8 0, .int .u8 0, .int .u8 0]
set_option maxRecDepth 100000 in
set_option maxHeartbeats 1000000 in
theorem lay_any (sa : Option Addr) (ss : List ByteArray) (c : Nat) (w : World) (hn : ss.length ≤ 1000000) (hsa : StrsAt w sa ss) (hz : ∀ i, (ss.getD i ByteArray.empty).size ≤ 140737488355328) :
    Calls Try.prog 31 #[.slice sa ss.length c] w fun e w' => e = .returned (layV ss) ∧ Below w.heap.size w w' := by
  have HA := Lib.hid hsa; clear hsa
  have HZ := Lib.hid hz; clear hz
  go_enter Try.func31, Try.ntmps31
  go_wp2
  go_loopw [5, 10] (fun z i wr => ∃ (j : Nat) (l : List UInt8), j ≤ ss.length ∧ i = .int .i64 j ∧ z = .int .i64 l.length ∧ Hid (l = joined (ss.take j)) ∧ l.length ≤ 64 ∧ Hid (LaySt w wr l)) (fun _ i _ => ss.length - (intOf i).toNat)
  case atStart => exact ⟨0, [], Nat.zero_le _, rfl, rfl, rfl, by decide, LaySt.start w⟩
  case round =>
    obtain ⟨j, l, hj, rfl, rfl, hl, h64, hst⟩ := hrel
    by_cases hlt : j < ss.length
    · obtain ⟨b, off, rfl, hc0⟩ := HA.out.cell hlt
      have hc := (hst.out.bel.cell (p := ⟨b, off + j, none⟩) (block_lt hc0)).trans hc0
      clear hc0
      have hsz := HZ.out j
      have HT := Lib.hid (joined_take ss j hlt)
      obtain ⟨s, hs⟩ : ∃ s, s = ss.getD j ByteArray.empty := ⟨_, rfl⟩
      rw [← hs] at hc hsz HT
      clear hs
      have hj0 : (0 : Int) ≤ (j : Int) := by omega
      have hj1 : (j : Int) < (ss.length : Int) := by omega
      by_cases hfit : l.length + s.size ≤ 64
      · have hle : (s.size : Int) ≤ 64 - (l.length : Int) := by omega
        obtain ⟨A, W2, ksl, kcp, hst2⟩ := hst.out.part h64 s hfit
        have hst3 := Lib.hid hst2
        have hw : wrap64 ((l.length : Int) + (s.size : Int)) = ((l ++ s.data.toList).length : Int) := by rw [List.length_append, ba_len]; unfold wrap64; omega
        have hE : (l.length : Int) + (s.size : Int) = ((l ++ s.data.toList).length : Int) := by rw [List.length_append, ba_len]; omega
        have hl2 : (l ++ s.data.toList).length ≤ 64 := by rw [List.length_append, ba_len]; exact hfit
        have HL : Hid (l ++ s.data.toList = joined (ss.take (j + 1))) := by rw [Hid, HT.out, ← hl.out]
        generalize l ++ s.data.toList = l2 at hst3 hw hl2 HL hE
        have HE : Hid ((l.length : Int) + (s.size : Int) = (l2.length : Int)) := hE
        clear hst2 hst hl HT hE
        go_wp2
        exact ⟨⟨j + 1, l2, by omega, by go_num, by rw [HE.out], HL.out, hl2, hst3⟩, by simp [intOf]; omega⟩
      · have hle : 64 - (l.length : Int) < (s.size : Int) := by omega
        have HN : Hid (¬ (joined ss).length ≤ 64) := by
          have h1 := joined_le ss (j + 1)
          rw [HT.out, ← hl.out, List.length_append, ba_len] at h1
          rw [Hid]; omega
        obtain ⟨z1, z2, z3, kres, hb2⟩ := hst.out.answer zeroC [] (by decide) rfl
        have HR : Hid (layV ss = .tuple #[.agg zeroC, .bool false]) := by rw [Hid]; unfold layV; rw [if_neg HN.out]; rfl
        clear hl HT HN
        go_wp2_with (refine wpList_store_row rfl 66 _ _ rfl w.heap.size zeroC rfl rfl 66 _ hst.out.res z3 z1 z2 ?_)
        refine bodyPost_ret (v := .tuple #[.agg zeroC, .bool false]) ?_ rfl ⟨by rw [HR.out], hb2⟩
        simp [results, Try.results31, asAddr, kres, Result.andThen]
    · have hjn : j = ss.length := by omega
      have hjn2 : (ss.length : Int) ≤ (j : Int) := by omega
      have HY : Hid (l = joined ss) := by rw [Hid, hl.out, hjn, List.take_length]
      obtain ⟨C, hC⟩ : ∃ C, C = (secC (pad l)).toArray := ⟨_, rfl⟩
      obtain ⟨z1, z2, z3, kres, hb2⟩ := hst.out.answer C l h64 hC
      have hrow := hst.out.row
      rw [← hC] at hrow
      have HR : Hid (layV ss = .tuple #[.agg C, .bool true]) := by
        rw [Hid]; unfold layV; rw [if_pos (by rw [← HY.out]; exact h64), ← HY.out, hC]; rfl
      clear hl HY hjn hC
      go_wp2_with (first
        | (refine wpList_load_row rfl 66 _ rfl (w.heap.size + 1) rfl 66 C (0, 0) _ hrow Try.underlying66 rfl z3 ?_)
        | (refine wpList_store_row rfl 66 _ _ rfl w.heap.size C rfl rfl 66 _ hst.out.res z3 z1 z2 ?_))
      refine bodyPost_ret (v := .tuple #[.agg C, .bool true]) ?_ rfl ⟨by rw [HR.out], hb2⟩
      simp [results, Try.results31, asAddr, kres, Result.andThen]
end Go.Proofs.Ytobgopiadfinbaa
