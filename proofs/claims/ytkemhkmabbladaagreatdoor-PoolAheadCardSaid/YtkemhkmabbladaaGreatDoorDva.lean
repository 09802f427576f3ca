/-
  THE CONTRACT OF device.lay: a sector that begins with texts, or that they have more bytes than it.
  THE SECTORS THAT ARE LOOSE: a map of sectors by their numbers, as a function.
  A DEVICE IN MEMORY: its power, its sectors as they last, those that are loose.
  THE CONTRACTS OF a power's On, use, again, and of a device's Sectors and has.
  THE CONTRACT OF device.New, of no power: a device of a power of its own.
  THE CONTRACT OF a device's Write, where its power is on and not armed.
  THE CONTRACTS OF a device's On, Lasts and Read, where its power is on.
  A SECTOR THAT IS MADE TO LAST: the pure part, and the region of it.
  WHAT A CALL ON A DEVICE LEAVES AS IT WAS: all blocks but those of its power, its sectors, its map.
-/
import Derived.Test.YtkemhkmabbladaaGreatDoorRows
import Derived.ProofKit
import Derived.OpenShut
import Derived.WalkSpells
import Derived.WalkKit
import Derived.Lib.Hide
import Derived.Deep.MidRow
import Derived.Lib.BufferWrite
import Derived.Deep.WholeRow
import Derived.Maps.OwnSet
import Derived.Maps.Views
import Derived.Carry
import Derived.Laws.MakeOwn
import Derived.Deep.RegionHeld3
import Derived.BigRegion
import Derived.StillTailTactics
namespace Go.Proofs.YtkemhkmabbladaaGreatDoor.Dv
open Go.RowKit

/-- A sector's bytes, as cells. -/
def secC (l : List UInt8) : List Value := Lib.byteCells l
def secV (l : List UInt8) : Value := .agg (secC l).toArray
def pad (l : List UInt8) : List UInt8 := l ++ List.replicate (64 - l.length) 0
theorem pad_len {l : List UInt8} (h : l.length ≤ 64) : (pad l).length = 64 := by
  unfold pad; rw [List.length_append, List.length_replicate]; omega
theorem secC_len (l : List UInt8) : (secC l).length = l.length := Lib.byteCells_length l
theorem block_lt {w : World} {p : Addr} {v : Value} (h : w.cell? p = some v) : p.block < w.heap.size := by
  rcases Nat.lt_or_ge p.block w.heap.size with h1 | h1
  · exact h1
  · unfold World.cell? at h
    rw [Array.getElem?_eq_none h1] at h
    cases h
theorem hp_new {W : World} {o : Obj} {n : Nat} (h : n = W.heap.size) : (W.alloc o).heap[n]? = some o := by
  subst h
  show (W.heap.push o)[W.heap.size]? = some o
  simp
theorem hp_old {W : World} {o : Obj} {n : Nat} {x : Obj} (h : W.heap[n]? = some x) : (W.alloc o).heap[n]? = some x := by
  have hlt : n < W.heap.size := by
    rcases Nat.lt_or_ge n W.heap.size with h1 | h1
    · exact h1
    · rw [Array.getElem?_eq_none h1] at h; cases h
  show (W.heap.push o)[n]? = some x
  rw [Array.getElem?_push, if_neg (by omega)]; exact h
/-- A slice of texts. -/
def StrsAt (w : World) (a : Option Addr) (ss : List ByteArray) : Prop :=
  ss = [] ∨ ∃ b off, a = some ⟨b, off, none⟩ ∧ ∀ i, i < ss.length → w.cell? ⟨b, off + i, none⟩ = some (.string (ss.getD i ByteArray.empty))
def joined (ss : List ByteArray) : List UInt8 := ss.flatMap fun s => s.data.toList
theorem StrsAt.cell {w : World} {a : Option Addr} {ss : List ByteArray} (h : StrsAt w a ss) {k : Nat} (hk : k < ss.length) : ∃ b off, a = some ⟨b, off, none⟩ ∧ w.cell? ⟨b, off + k, none⟩ = some (.string (ss.getD k ByteArray.empty)) := by
  rcases h with rfl | ⟨b, off, e, h⟩
  · simp at hk
  · exact ⟨b, off, e, h k hk⟩
theorem joined_take (ss : List ByteArray) (j : Nat) (h : j < ss.length) : joined (ss.take (j + 1)) = joined (ss.take j) ++ (ss.getD j ByteArray.empty).data.toList := by
  rw [List.take_succ_eq_append_getElem h]
  unfold joined
  rw [List.flatMap_append]
  simp [List.getD_eq_getElem?_getD, h]
theorem joined_le (ss : List ByteArray) (j : Nat) : (joined (ss.take j)).length ≤ (joined ss).length := by
  have h : ss = ss.take j ++ ss.drop j := (List.take_append_drop j ss).symm
  have h2 : (joined ss).length = (joined (ss.take j)).length + (joined (ss.drop j)).length := by
    conv => lhs; rw [h]
    unfold joined
    rw [List.flatMap_append, List.length_append]
  omega
theorem ba_len (s : ByteArray) : s.data.toList.length = s.size := Array.length_toList
/-- The state of lay's loop: what is laid so far; the answer's variable is empty still. -/
structure LaySt (w W : World) (l : List UInt8) : Prop where
  res : W.heap[w.heap.size]? = some (.cells (secC (pad [])).toArray 129 (0, 0))
  row : W.heap[w.heap.size + 1]? = some (.cells (secC (pad l)).toArray 129 (0, 0))
  bel : Below w.heap.size w W
theorem LaySt.start (w : World) : LaySt w ((w.alloc (.cells (secC (pad [])).toArray 129)).alloc (.cells (secC (pad [])).toArray 129)) [] where
  res := hp_old (hp_new rfl)
  row := hp_new (by rw [World.size_alloc])
  bel := ((Below.refl _ _).alloc (Nat.le_refl _) _).alloc (by rw [World.size_alloc]; omega) _
/-- Copied behind what is laid. -/
theorem pad_copy (l : List UInt8) (s : List UInt8) (h : l.length + s.length ≤ 64) :
    (secC (pad l)).toArray.toList.take l.length ++ Lib.byteCells s ++ (secC (pad l)).toArray.toList.drop (l.length + s.length) = secC (pad (l ++ s)) := by
  show (secC (pad l)).take l.length ++ secC s ++ (secC (pad l)).drop (l.length + s.length) = secC (pad (l ++ s))
  unfold secC Lib.byteCells
  rw [← List.map_take, ← List.map_drop, ← List.map_append, ← List.map_append]
  congr 1
  unfold pad
  have e : 64 - l.length - (l.length + s.length - l.length) = 64 - (l.length + s.length) := by omega
  rw [List.take_left, List.drop_append, List.drop_of_length_le (by omega), List.nil_append, List.drop_replicate, e, List.length_append]
theorem LaySt.copied {w W : World} {l : List UInt8} (h : LaySt w W l) (hl : l.length ≤ 64) (s : ByteArray) (hs : l.length + s.size ≤ 64) (ty : TypeId) :
    (Builtin.copy_ #[134, 9] ty #[.slice (some ⟨w.heap.size + 1, l.length, none⟩) (64 - l.length) (64 - l.length), .string s]).run Tryz.prog W =
      .ok (goInt s.size) (W.setRow (w.heap.size + 1) (secC (pad (l ++ s.data.toList))).toArray) := by
  have hz : (secC (pad l)).toArray.size = 64 := by rw [List.size_toArray, secC_len, pad_len hl]
  have hr := Lib.run_copy_row_string (P := Tryz.prog) W 134 9 ty 5 (w.heap.size + 1) l.length (64 - l.length) (64 - l.length) s _ _ Tryz.underlying134 (by kernel_rfl) h.row (by omega) (by rw [hz]; exact hs)
  rw [hr]
  have hp := pad_copy l s.data.toList (by rw [ba_len]; exact hs)
  rw [ba_len] at hp
  rw [hp]
theorem setRow_old {W : World} {g k : Nat} {cs : Array Value} (h : g ≠ k) : (W.setRow g cs).heap[k]? = W.heap[k]? := by
  show (W.heap.modify g _)[k]? = W.heap[k]?
  rw [Array.getElem?_modify, if_neg h]
theorem LaySt.next {w W : World} {l : List UInt8} (h : LaySt w W l) (m : List UInt8) : LaySt w (W.setRow (w.heap.size + 1) (secC (pad m)).toArray) m where
  res := by rw [setRow_old (by omega)]; exact h.res
  row := setRow_heap _ _ _ _ _ _ h.row
  bel := by
    refine h.bel.trans ⟨rfl, rfl, rfl, ?_, fun k hk => setRow_old (by omega)⟩
    show W.heap.size ≤ (W.heap.modify _ _).size
    rw [Array.size_modify]; exact Nat.le_refl _
set_option maxRecDepth 100000 in
/-- A sector's rest as a slice, and what is copied into it. -/
theorem LaySt.part {w W : World} {l : List UInt8} (h : LaySt w W l) (hl : l.length ≤ 64) (s : ByteArray) (hs : l.length + s.size ≤ 64) :
    ∃ A W', (Instr.sliceAt 129 (.pointer (some ⟨w.heap.size + 1, 0, none⟩)) (some (.int .i64 (l.length : Int))) none none).run Tryz.prog W = .ok (.slice (some A) (64 - l.length) (64 - l.length)) W ∧
      (∀ ty, (Builtin.copy_ #[134, 9] ty #[.slice (some A) (64 - l.length) (64 - l.length), .string s]).run Tryz.prog W = .ok (.int .i64 (s.size : Int)) W') ∧ LaySt w W' (l ++ s.data.toList) := by
  have hA : Tryz.prog.arrayLen 129 = 64 := by kernel_rfl
  have hsl := run_sliceAt_array_l (P := Tryz.prog) W 129 ⟨w.heap.size + 1, 0, none⟩ (by kernel_rfl) .i64 (l.length : Int) (by omega) (by rw [hA]; omega)
  rw [hA] at hsl
  have he : (sizeOf (Tryz.prog.elem 129)).run Tryz.prog W = .ok 1 W := Tryz.sizeOf5 W
  rw [he] at hsl
  simp only [Result.andThen, Int.toNat_natCast, slicedAt] at hsl
  by_cases h64 : l.length = 64
  · have hs0 : s.size = 0 := by omega
    have hn : l ++ s.data.toList = l := by
      have : s.data.toList = [] := List.length_eq_zero_iff.1 (by rw [ba_len]; exact hs0)
      rw [this, List.append_nil]
    refine ⟨_, W, hsl, fun ty => ?_, by rw [hn]; exact h⟩
    exact Lib.run_copy_empty_string (P := Tryz.prog) W 134 9 ty 5 _ _ _ s Tryz.underlying134 (by kernel_rfl) hs0 |>.trans (by rw [hs0]; rfl)
  · have ha : (if (64 : Nat) = l.length then (⟨w.heap.size + 1, 0, none⟩ : Addr) else (⟨w.heap.size + 1, 0, none⟩ : Addr).add (l.length * 1)) = ⟨w.heap.size + 1, l.length, none⟩ := by
      rw [if_neg (by omega), Addr.add_mid]; simp
    refine ⟨⟨w.heap.size + 1, l.length, none⟩, _, ?_, fun ty => h.copied hl s hs ty, h.next _⟩
    rw [← ha]; exact hsl
/-- What lay answers. -/
def layV (ss : List ByteArray) : Value := if (joined ss).length ≤ 64 then .tuple #[secV (pad (joined ss)), .bool true] else .tuple #[secV (pad []), .bool false]
theorem infoK : (Tryz.prog.info? 129).map (fun i => (i.zero, i.size)) = some (some (secV (pad [])), 64) := by kernel_rfl
theorem secV_load {W : World} {b : Nat} {l : List UInt8} (h : W.heap[b]? = some (.cells (secC (pad l)).toArray 129 (0, 0))) (hl : l.length ≤ 64) :
    (Instr.loadAt 129 (.pointer (some ⟨b, 0, none⟩))).run Tryz.prog W = .ok (secV (pad l)) W := by
  have hr : W.rangeAt b 0 (secC (pad l)) := fun j v hv => by
    rw [Nat.zero_add, cell_of_row W b j _ _ _ h]; simpa using hv
  exact run_loadAt_mid W b 0 129 (secC (pad l)) _ hr Tryz.underlying129 rfl (by
    rw [secC_len, pad_len hl]; exact (zero_of_info infoK).2)
theorem secV_one (l : List UInt8) : (secC l).toArray.all (·.oneCell') = true := all_oneCell_toArray (Lib.byteCells_one l)
theorem sec_info {l : List UInt8} (hl : l.length ≤ 64) : (Tryz.prog.info? 129).map (·.size) = some (secC (pad l)).toArray.size := by
  rw [List.size_toArray, secC_len, pad_len hl]; exact (zero_of_info infoK).2
/-- The answer's variable is written. -/
theorem LaySt.answer {w W : World} {l : List UInt8} (h : LaySt w W l) (C : Array Value) (m : List UInt8) (hm : m.length ≤ 64) (hC : C = (secC (pad m)).toArray) :
    (secC (pad ([] : List UInt8))).toArray.size = C.size ∧ C.all (·.oneCell') = true ∧ (Tryz.prog.info? 129).map (·.size) = some C.size ∧
      (loadVar 129 ⟨w.heap.size, 0, none⟩).run Tryz.prog (W.setRow w.heap.size C) = .ok (.agg C) (W.setRow w.heap.size C) ∧ Below w.heap.size w (W.setRow w.heap.size C) := by
  subst hC
  have hz : (secC (pad ([] : List UInt8))).toArray.size = (secC (pad m)).toArray.size := by
    rw [List.size_toArray, List.size_toArray, secC_len, secC_len, pad_len hm, pad_len (by decide)]
  have hr := setRow_heap W w.heap.size _ (secC (pad m)).toArray _ _ h.res
  refine ⟨hz, secV_one _, sec_info hm, ?_, ?_⟩
  · exact run_loadVar_row _ w.heap.size 129 129 _ (0, 0) _ hr Tryz.underlying129 rfl (sec_info hm)
  · refine h.bel.trans ⟨rfl, rfl, rfl, ?_, fun k hk => setRow_old (by omega)⟩
    show W.heap.size ≤ (W.heap.modify _ _).size
    rw [Array.size_modify]; exact Nat.le_refl _
def zeroC : Array Value := #[.int .u8 0, .int .u8 0, .int .u8 0, .int .u8 0, .int .u8 0, .int .u8 0, .int .u8 0, .int .u8 0, .int .u8 0, .int .u8 0, .int .u8 0, .int .u8 0, .int .u8 0, .int .u8 0, .int .u8 0, .int .u8 0, .int .u8 0, .int .u8 0, .int .u8 0, .int .u8 0, .int .u8 0, .int .u8 0, .int .u8 0, .int .u8 0, .int .u8 0, .int .u8 0, .int .u8 0, .int .u8 0, .int .u8 0, .int .u8 0, .int .u8 0, .int .u8 0, .int .u8 0, .int .u8 0, .int .u8 0, .int .u8 0, .int .u8 0, .int .u8 0, .int .u8 0, .int .u8 0, .int .u8 0, .int .u8 0, .int .u8 0, .int .u8 0, .int .u8 0, .int .u8 0, .int .u8 0, .int .u8 0, .int .u8 0, .int .u8 0, .int .u8 0, .int .u8 0, .int .u8 0, .int .u8 0, .int .u8 0, .int .u8 0, .int .u8 0, .int .u8 0, .int .u8 0, .int .u8 0, .int .u8 0, .int .u8 0, .int .u8 0, .int .u8 0]
set_option maxRecDepth 100000 in
set_option maxHeartbeats 1000000 in
theorem lay_any (sa : Option Addr) (ss : List ByteArray) (c : Nat) (w : World) (hn : ss.length ≤ 1000000) (hsa : StrsAt w sa ss) (hz : ∀ i, (ss.getD i ByteArray.empty).size ≤ 140737488355328) :
    Calls Tryz.prog 80 #[.slice sa ss.length c] w fun e w' => e = .returned (layV ss) ∧ Below w.heap.size w w' := by
  have HA := Lib.hid hsa; clear hsa
  have HZ := Lib.hid hz; clear hz
  go_enter Tryz.func80, Tryz.ntmps80
  go_wp2
  go_loopw [5, 10] (fun z i wr => ∃ (j : Nat) (l : List UInt8), j ≤ ss.length ∧ i = .int .i64 j ∧ z = .int .i64 l.length ∧ Hid (l = joined (ss.take j)) ∧ l.length ≤ 64 ∧ Hid (LaySt w wr l)) (fun _ i _ => ss.length - (intOf i).toNat)
  case atStart => exact ⟨0, [], Nat.zero_le _, rfl, rfl, rfl, by decide, LaySt.start w⟩
  case round =>
    obtain ⟨j, l, hj, rfl, rfl, hl, h64, hst⟩ := hrel
    by_cases hlt : j < ss.length
    · obtain ⟨b, off, rfl, hc0⟩ := HA.out.cell hlt
      have hc := (hst.out.bel.cell (p := ⟨b, off + j, none⟩) (block_lt hc0)).trans hc0
      clear hc0
      have hsz := HZ.out j
      have HT := Lib.hid (joined_take ss j hlt)
      obtain ⟨s, hs⟩ : ∃ s, s = ss.getD j ByteArray.empty := ⟨_, rfl⟩
      rw [← hs] at hc hsz HT
      clear hs
      have hj0 : (0 : Int) ≤ (j : Int) := by omega
      have hj1 : (j : Int) < (ss.length : Int) := by omega
      by_cases hfit : l.length + s.size ≤ 64
      · have hle : (s.size : Int) ≤ 64 - (l.length : Int) := by omega
        obtain ⟨A, W2, ksl, kcp, hst2⟩ := hst.out.part h64 s hfit
        have hst3 := Lib.hid hst2
        have hw : wrap64 ((l.length : Int) + (s.size : Int)) = ((l ++ s.data.toList).length : Int) := by rw [List.length_append, ba_len]; unfold wrap64; omega
        have hE : (l.length : Int) + (s.size : Int) = ((l ++ s.data.toList).length : Int) := by rw [List.length_append, ba_len]; omega
        have hl2 : (l ++ s.data.toList).length ≤ 64 := by rw [List.length_append, ba_len]; exact hfit
        have HL : Hid (l ++ s.data.toList = joined (ss.take (j + 1))) := by rw [Hid, HT.out, ← hl.out]
        generalize l ++ s.data.toList = l2 at hst3 hw hl2 HL hE
        have HE : Hid ((l.length : Int) + (s.size : Int) = (l2.length : Int)) := hE
        clear hst2 hst hl HT hE
        go_wp2
        exact ⟨⟨j + 1, l2, by omega, by go_num, by rw [HE.out], HL.out, hl2, hst3⟩, by simp [intOf]; omega⟩
      · have hle : 64 - (l.length : Int) < (s.size : Int) := by omega
        have HN : Hid (¬ (joined ss).length ≤ 64) := by
          have h1 := joined_le ss (j + 1)
          rw [HT.out, ← hl.out, List.length_append, ba_len] at h1
          rw [Hid]; omega
        obtain ⟨z1, z2, z3, kres, hb2⟩ := hst.out.answer zeroC [] (by decide) rfl
        have HR : Hid (layV ss = .tuple #[.agg zeroC, .bool false]) := by rw [Hid]; unfold layV; rw [if_neg HN.out]; rfl
        clear hl HT HN
        go_wp2_with (refine wpList_store_row rfl 129 _ _ rfl w.heap.size zeroC rfl rfl 129 _ hst.out.res z3 z1 z2 ?_)
        refine bodyPost_ret (v := .tuple #[.agg zeroC, .bool false]) ?_ rfl ⟨by rw [HR.out], hb2⟩
        simp [results, Tryz.results80, asAddr, kres, Result.andThen]
    · have hjn : j = ss.length := by omega
      have hjn2 : (ss.length : Int) ≤ (j : Int) := by omega
      have HY : Hid (l = joined ss) := by rw [Hid, hl.out, hjn, List.take_length]
      obtain ⟨C, hC⟩ : ∃ C, C = (secC (pad l)).toArray := ⟨_, rfl⟩
      obtain ⟨z1, z2, z3, kres, hb2⟩ := hst.out.answer C l h64 hC
      have hrow := hst.out.row
      rw [← hC] at hrow
      have HR : Hid (layV ss = .tuple #[.agg C, .bool true]) := by
        rw [Hid]; unfold layV; rw [if_pos (by rw [← HY.out]; exact h64), ← HY.out, hC]; rfl
      clear hl HY hjn hC
      go_wp2_with (first
        | (refine wpList_load_row rfl 129 _ rfl (w.heap.size + 1) rfl 129 C (0, 0) _ hrow Tryz.underlying129 rfl z3 ?_)
        | (refine wpList_store_row rfl 129 _ _ rfl w.heap.size C rfl rfl 129 _ hst.out.res z3 z1 z2 ?_))
      refine bodyPost_ret (v := .tuple #[.agg C, .bool true]) ?_ rfl ⟨by rw [HR.out], hb2⟩
      simp [results, Tryz.results80, asAddr, kres, Result.andThen]
end Go.Proofs.YtkemhkmabbladaaGreatDoor.Dv

namespace Go.Proofs.YtkemhkmabbladaaGreatDoor.Dv
open Go.RowKit Go.Maps Go.ChangeMaps Go.MapKept Go.WideElems

theorem byteCells_inj : ∀ {a b : List UInt8}, Lib.byteCells a = Lib.byteCells b → a = b
  | [], [], _ => rfl
  | [], y :: b, h => by simp [Lib.byteCells] at h
  | x :: a, [], h => by simp [Lib.byteCells] at h
  | x :: a, y :: b, h => by
    unfold Lib.byteCells at h
    simp only [List.map_cons, List.cons.injEq] at h
    have h1 : x = y := by
      have h2 := h.1
      simp only [Value.int.injEq, true_and] at h2
      exact UInt8.toNat_inj.1 (by omega)
    rw [h1, byteCells_inj h.2]
theorem secV_inj {a b : List UInt8} (h : secV a = secV b) : a = b := by
  unfold secV secC at h
  simp only [Value.agg.injEq] at h
  exact byteCells_inj (by simpa using congrArg Array.toList h)
/-- How a sector in a map reads: its bytes. -/
noncomputable def secR {H : Type} (v : Value) : Option (DataW H × List MemPlace) := by
  classical
  exact if h : ∃ l : List UInt8, l.length = 64 ∧ v = secV l then some (.lit (.string h.choose), []) else none
theorem secR_of {H : Type} {l : List UInt8} (hl : l.length = 64) : secR (H := H) (secV l) = some (.lit (.string l), []) := by
  have h : ∃ m : List UInt8, m.length = 64 ∧ secV l = secV m := ⟨l, hl, rfl⟩
  unfold secR
  rw [dif_pos h]
  rw [← secV_inj h.choose_spec.2]
theorem secR_inv {H : Type} {v : Value} {z : DataW H × List MemPlace} (h : secR v = some z) : ∃ l : List UInt8, l.length = 64 ∧ v = secV l ∧ z = (.lit (.string l), []) := by
  unfold secR at h
  split at h
  · rename_i hx
    obtain ⟨h1, h2⟩ := hx.choose_spec
    exact ⟨_, h1, h2, (Option.some.inj h).symm⟩
  · cases h
theorem keyLaw : Keyed Tryz.prog 3 := int_keyed Tryz.underlying3
def blank64 : List UInt8 := pad []
theorem blank64_len : blank64.length = 64 := pad_len (by decide)
/-- A map's datum, as a function. -/
def MapIs (D : DataW Unit) (f : Int → Option (List UInt8)) : Prop :=
  (∀ i, has D (.int .i64 i) = (f i).isSome) ∧ ∀ i l, f i = some l → D.atKey (.int .i64 i) (.lit (.string blank64)) = .lit (.string l)
def upd (f : Int → Option (List UInt8)) (i : Int) (l : Option (List UInt8)) : Int → Option (List UInt8) := fun k => if k = i then l else f k
/-- Block M is a map of sectors: those of f. -/
def LooseAt (W : World) (M n : Nat) (f : Int → Option (List UInt8)) : Prop := ∃ D, W.ownsMap Tryz.prog 3 (secR (H := Unit)) M n D ∧ MapIs D f
theorem LooseAt.kept {W W' : World} {M n : Nat} {f : Int → Option (List UInt8)} (h : LooseAt W M n f) {row : Option Nat} (hg : W.grownBy W' row) (hne : some M ≠ row) : LooseAt W' M n f := by
  obtain ⟨D, h1, h2⟩ := h
  exact ⟨D, h1.kept hg hne, h2⟩
theorem LooseAt.below {W W' : World} {M n : Nat} {f : Int → Option (List UInt8)} (h : LooseAt W M n f) (hb : Below W.heap.size W W') : LooseAt W' M n f :=
  h.kept (row := none) ⟨hb.os, hb.tape, hb.output, hb.size, fun k hk _ => hb.block k hk⟩ (by simp)
theorem LooseAt.made (W : World) : LooseAt (W.alloc (.map #[] 0)) W.heap.size 0 (fun _ => none) :=
  ⟨.map [], World.ownsMap_made W _ _ _, fun i => by simp [has_eq], fun i l h => by cases h⟩
/-- A look-up. -/
def lookV (f : Int → Option (List UInt8)) (i : Int) : Value := match f i with
  | some l => .tuple #[secV l, .bool true]
  | none => .tuple #[secV blank64, .bool false]
theorem LooseAt.look {W : World} {M n : Nat} {f : Int → Option (List UInt8)} (h : LooseAt W M n f) (i : Int) (hi : (Lit.int .i64 i).wf = true) :
    (Instr.lookup 102 (.map (some M)) (.int .i64 i) true).run Tryz.prog W = .ok (lookV f i) W := by
  obtain ⟨D, h1, h2, h3⟩ := h
  obtain ⟨v, ps, hrun, hv⟩ := h1.look_ok keyLaw Tryz.underlying102 ((zero_of_info infoK).1 W) (secR_of blank64_len) (keyOf_int_mk Tryz.underlying3 hi)
  rw [hrun]
  obtain ⟨l, hl, rfl, hz⟩ := secR_inv hv
  simp only [Prod.mk.injEq] at hz
  replace hz : D.atKey (.int .i64 i) (.lit (.string blank64)) = .lit (.string l) ∧ ps = [] := hz
  rw [h2 i]
  unfold lookV
  cases hf : f i with
  | none =>
    have hn : has D (.int .i64 i) = false := by rw [h2 i, hf]; rfl
    have ha := atKey_of_not_has hn (.lit (.string blank64))
    rw [ha] at hz
    have : blank64 = l := by simpa using hz.1
    rw [this]; rfl
  | some m =>
    have ha := h3 i m hf
    rw [ha] at hz
    have : m = l := by simpa using hz.1
    rw [this]; rfl
/-- A store. -/
theorem LooseAt.store {W : World} {M n : Nat} {f : Int → Option (List UInt8)} (h : LooseAt W M n f) (i : Int) (hi : (Lit.int .i64 i).wf = true) (l : List UInt8) (hl : l.length = 64) (hn : n < maxLen) :
    ∃ W', (Instr.mapUpdate 102 (.map (some M)) (.int .i64 i) (secV l)).run Tryz.prog W = .ok () W' ∧ LooseAt W' M (n + 1) (upd f i (some l)) ∧ W.grownBy W' (some M) := by
  obtain ⟨D, h1, h2, h3⟩ := h
  have hk := keyOf_int_mk (P := Tryz.prog) Tryz.underlying3 hi
  obtain ⟨W', hrun, hown, hg⟩ := h1.update keyLaw Tryz.underlying102 hn hk (secR_of hl)
  refine ⟨W', hrun, ⟨_, hown, fun k => ?_, fun k m hm => ?_⟩, hg⟩
  · unfold upd
    by_cases e : k = i
    · subst e
      rw [has_put_same h1.isMap (show WideAt.IsKeyLit (.int .i64 k) from trivial), if_pos rfl]; rfl
    · rw [has_put_other (by intro x; injection x with _ x; exact e x), if_neg e]; exact h2 k
  · unfold upd at hm
    by_cases e : k = i
    · subst e
      rw [if_pos rfl] at hm
      rw [atKey_put_same h1.isMap (show WideAt.IsKeyLit (.int .i64 k) from trivial), Option.some.inj hm]
    · rw [if_neg e] at hm
      rw [atKey_put_other (by intro x; injection x with _ x; exact e x)]; exact h3 k m hm
/-- clear. -/
theorem LooseAt.wipe {W : World} {M n : Nat} {f : Int → Option (List UInt8)} (h : LooseAt W M n f) (ty : TypeId) :
    ∃ W', (Builtin.clear_ #[102] ty #[.map (some M)]).run Tryz.prog W = .ok (.tuple #[]) W' ∧ LooseAt W' M n (fun _ => none) ∧ W.grownBy W' (some M) := by
  obtain ⟨D, ⟨es, clock, hb, F, hs, hD⟩, _⟩ := h
  refine ⟨setBlock W M (.map #[] clock), ?_, ⟨.map [], ⟨#[], clock, heap_setBlock_same hb _, ⟨by simp, stamped_empty clock, by simp⟩, Nat.zero_le _, rfl⟩, fun i => by simp [has_eq], fun i l h => by cases h⟩, ⟨rfl, rfl, rfl, by simp [setBlock], fun i _ hi => heap_setBlock_other hb _ (fun e => hi (by rw [e]))⟩⟩
  simp [Builtin.clear_, run_underlying Tryz.underlying102, Go.MapKept.run_getObj_map hb, Go.MapKept.run_setObj_map _ hb, Result.andThen]
  rfl
end Go.Proofs.YtkemhkmabbladaaGreatDoor.Dv

namespace Go.Proofs.YtkemhkmabbladaaGreatDoor.Dv
open Go.RowKit Go.Maps

def lasC (l : List (List UInt8)) : List Value := l.flatMap secC
theorem lasC_len : ∀ {l : List (List UInt8)}, (∀ x ∈ l, x.length = 64) → (lasC l).length = 64 * l.length
  | [], _ => rfl
  | x :: l, h => by
    have h1 := h x List.mem_cons_self
    have h2 := lasC_len (fun y hy => h y (List.mem_cons_of_mem _ hy))
    unfold lasC at h2 ⊢
    rw [List.flatMap_cons, List.length_append, h2, secC_len, h1, List.length_cons]; omega
/-- A device in memory. -/
structure DevAt (W : World) (D P L M n k : Nat) (off : Bool) (uses : Int) (armed : Bool) (left : Int) (las : List (List UInt8)) (f : Int → Option (List UInt8)) : Prop where
  d0 : W.cell? ⟨D, 0, none⟩ = some (.pointer (some ⟨P, 0, none⟩))
  d1 : W.cell? ⟨D, 1, none⟩ = some (.slice (some ⟨L, 0, none⟩) n n)
  d2 : W.cell? ⟨D, 2, none⟩ = some (.map (some M))
  p0 : W.cell? ⟨P, 0, none⟩ = some (.bool off)
  p1 : W.cell? ⟨P, 1, none⟩ = some (.int .i64 uses)
  p2 : W.cell? ⟨P, 2, none⟩ = some (.bool armed)
  p3 : W.cell? ⟨P, 3, none⟩ = some (.int .i64 left)
  pf : ∀ i, W.frozen? ⟨P, i, none⟩ = false
  lb : W.heap[L]? = some (.cells (lasC las).toArray 129 (0, 0))
  ll : las.length = n
  l64 : ∀ l ∈ las, l.length = 64
  mp : LooseAt W M k f
  dp : D ≠ P
  dl : D ≠ L
  dm : D ≠ M
  pl : P ≠ L
  pm : P ≠ M
  lm : L ≠ M
theorem keep_cell {w w' : World} {p : Addr} {v : Value} (h : Below w.heap.size w w') (hc : w.cell? p = some v) : w'.cell? p = some v :=
  (h.cell (block_lt hc)).trans hc
theorem blk_lt {W : World} {b : Nat} {o : Obj} (h : W.heap[b]? = some o) : b < W.heap.size := by
  rcases Nat.lt_or_ge b W.heap.size with h1 | h1
  · exact h1
  · rw [Array.getElem?_eq_none h1] at h; cases h
/-- What writes block R alone, or makes blocks. -/
theorem cell_apart {W W' : World} {p : Addr} {v : Value} {R : Nat} (hg : W.grownBy W' (some R)) (hR : p.block ≠ R) (hc : W.cell? p = some v) : W'.cell? p = some v :=
  (World.cell?_of_block (hg.block p.block (block_lt hc) (by simpa using hR))).trans hc
theorem DevAt.below {W W' : World} {D P L M n k : Nat} {off : Bool} {uses : Int} {armed : Bool} {left : Int} {las : List (List UInt8)} {f : Int → Option (List UInt8)}
    (h : DevAt W D P L M n k off uses armed left las f) (hb : Below W.heap.size W W') : DevAt W' D P L M n k off uses armed left las f where
  d0 := keep_cell hb h.d0
  d1 := keep_cell hb h.d1
  d2 := keep_cell hb h.d2
  p0 := keep_cell hb h.p0
  p1 := keep_cell hb h.p1
  p2 := keep_cell hb h.p2
  p3 := keep_cell hb h.p3
  pf := fun i => (hb.frozen (p := ⟨P, i, none⟩) (block_lt (p := ⟨P, 0, none⟩) h.p0)).trans (h.pf i)
  lb := (hb.block L (blk_lt h.lb)).trans h.lb
  ll := h.ll
  l64 := h.l64
  mp := h.mp.below hb
  dp := h.dp
  dl := h.dl
  dm := h.dm
  pl := h.pl
  pm := h.pm
  lm := h.lm
/-- The map was written. -/
theorem DevAt.map {W W' : World} {D P L M n k k' : Nat} {off : Bool} {uses : Int} {armed : Bool} {left : Int} {las : List (List UInt8)} {f f' : Int → Option (List UInt8)}
    (h : DevAt W D P L M n k off uses armed left las f) (hg : W.grownBy W' (some M)) (hm : LooseAt W' M k' f') : DevAt W' D P L M n k' off uses armed left las f' where
  d0 := cell_apart hg h.dm h.d0
  d1 := cell_apart hg h.dm h.d1
  d2 := cell_apart hg h.dm h.d2
  p0 := cell_apart hg h.pm h.p0
  p1 := cell_apart hg h.pm h.p1
  p2 := cell_apart hg h.pm h.p2
  p3 := cell_apart hg h.pm h.p3
  pf := fun i => (World.frozen?_of_block (hg.block P (block_lt (p := ⟨P, 0, none⟩) h.p0) (by simpa using h.pm))).trans (h.pf i)
  lb := (hg.block L (blk_lt h.lb) (by simpa using h.lm)).trans h.lb
  ll := h.ll
  l64 := h.l64
  mp := hm
  dp := h.dp
  dl := h.dl
  dm := h.dm
  pl := h.pl
  pm := h.pm
  lm := h.lm
theorem setCell_grown (W : World) (b i : Nat) (v : Value) : W.grownBy (W.setCell ⟨b, i, none⟩ v) (some b) := Lib.grownBy_setCell W b i v
/-- A cell of the power was written. -/
theorem DevAt.pow {W : World} {D P L M n k : Nat} {off : Bool} {uses : Int} {armed : Bool} {left : Int} {las : List (List UInt8)} {f : Int → Option (List UInt8)}
    (h : DevAt W D P L M n k off uses armed left las f) :
    (∀ x, DevAt (W.setCell ⟨P, 0, none⟩ (.bool x)) D P L M n k x uses armed left las f) ∧ (∀ x, DevAt (W.setCell ⟨P, 1, none⟩ (.int .i64 x)) D P L M n k off x armed left las f) ∧
    (∀ x, DevAt (W.setCell ⟨P, 2, none⟩ (.bool x)) D P L M n k off uses x left las f) ∧ (∀ x, DevAt (W.setCell ⟨P, 3, none⟩ (.int .i64 x)) D P L M n k off uses armed x las f) := by
  have hne : ∀ i j : Nat, i ≠ j → (⟨P, i, none⟩ : Addr) ≠ ⟨P, j, none⟩ := fun i j hij e => by injection e with _ e2; exact hij e2
  have core : ∀ (i : Nat) (v : Value), ∀ a b c d, (W.setCell ⟨P, i, none⟩ v).cell? ⟨P, 0, none⟩ = some (.bool a) → (W.setCell ⟨P, i, none⟩ v).cell? ⟨P, 1, none⟩ = some (.int .i64 b) → (W.setCell ⟨P, i, none⟩ v).cell? ⟨P, 2, none⟩ = some (.bool c) → (W.setCell ⟨P, i, none⟩ v).cell? ⟨P, 3, none⟩ = some (.int .i64 d) →
      DevAt (W.setCell ⟨P, i, none⟩ v) D P L M n k a b c d las f := fun i v a b c d ha hb hc hd =>
    have hg := setCell_grown W P i v
    { d0 := cell_apart hg h.dp h.d0, d1 := cell_apart hg h.dp h.d1, d2 := cell_apart hg h.dp h.d2, p0 := ha, p1 := hb, p2 := hc, p3 := hd,
      pf := fun j => by rw [World.frozen?_setCell]; exact h.pf j,
      lb := (hg.block L (blk_lt h.lb) (by simpa using h.pl.symm)).trans h.lb, ll := h.ll, l64 := h.l64, mp := h.mp.kept hg (by simpa using h.pm.symm), dp := h.dp, dl := h.dl, dm := h.dm, pl := h.pl, pm := h.pm, lm := h.lm }
  have oth : ∀ (i j : Nat) (v u : Value), i ≠ j → W.cell? ⟨P, j, none⟩ = some u → (W.setCell ⟨P, i, none⟩ v).cell? ⟨P, j, none⟩ = some u := fun i j v u hij hu => by
    rw [World.cell?_setCell_other _ _ _ _ (hne i j hij)]; exact hu
  have same : ∀ (i : Nat) (v u : Value), W.cell? ⟨P, i, none⟩ = some u → (W.setCell ⟨P, i, none⟩ v).cell? ⟨P, i, none⟩ = some v := fun i v u hu => World.cell?_setCell_same _ _ _ hu
  exact ⟨fun x => core 0 _ _ _ _ _ (same 0 _ _ h.p0) (oth 0 1 _ _ (by decide) h.p1) (oth 0 2 _ _ (by decide) h.p2) (oth 0 3 _ _ (by decide) h.p3),
    fun x => core 1 _ _ _ _ _ (oth 1 0 _ _ (by decide) h.p0) (same 1 _ _ h.p1) (oth 1 2 _ _ (by decide) h.p2) (oth 1 3 _ _ (by decide) h.p3),
    fun x => core 2 _ _ _ _ _ (oth 2 0 _ _ (by decide) h.p0) (oth 2 1 _ _ (by decide) h.p1) (same 2 _ _ h.p2) (oth 2 3 _ _ (by decide) h.p3),
    fun x => core 3 _ _ _ _ _ (oth 3 0 _ _ (by decide) h.p0) (oth 3 1 _ _ (by decide) h.p1) (oth 3 2 _ _ (by decide) h.p2) (same 3 _ _ h.p3)⟩
end Go.Proofs.YtkemhkmabbladaaGreatDoor.Dv

namespace Go.Proofs.YtkemhkmabbladaaGreatDoor.Dv
open Go.RowKit

theorem powOn_any (P : Nat) (off : Bool) (W : World) (h : W.cell? ⟨P, 0, none⟩ = some (.bool off)) :
    Calls Tryz.prog 110 #[.pointer (some ⟨P, 0, none⟩)] W fun e w' => e = .returned (.bool (!off)) ∧ W = w' := by
  cases off <;>
  · go_enter Tryz.func110, Tryz.ntmps110
    go_wp2
    go_ret
    exact ⟨rfl, rfl⟩
theorem powOn_nil (W : World) : Calls Tryz.prog 110 #[.pointer none] W fun e w' => e = .returned (.bool false) ∧ W = w' := by
  go_enter Tryz.func110, Tryz.ntmps110
  go_wp2
  go_ret
  exact ⟨rfl, rfl⟩
set_option maxHeartbeats 1000000 in
/-- A use, where the power is on and not armed. -/
theorem use_on {W : World} {D P L M n k : Nat} {uses left : Int} {las : List (List UInt8)} {f : Int → Option (List UInt8)} (h : DevAt W D P L M n k false uses false left las f) (hu : 0 ≤ uses ∧ uses ≤ 1000000000) :
    Calls Tryz.prog 79 #[.pointer (some ⟨P, 0, none⟩)] W fun e w' => e = .returned (.bool true) ∧ w' = W.setCell ⟨P, 1, none⟩ (.int .i64 (uses + 1)) := by
  have KO := Lib.hid (powOn_any P false W h.p0)
  have h1 := h.p1
  have h2 := h.p2
  have h3 : ∀ v, (W.setCell ⟨P, 1, none⟩ v).cell? ⟨P, 2, none⟩ = some (.bool false) := fun v => by
    rw [World.cell?_setCell_other _ _ _ _ (fun e => by injection e with _ e2; cases e2)]; exact h.p2
  have hf := h.pf 1
  obtain ⟨u0, u1⟩ := hu
  go_enter Tryz.func79, Tryz.ntmps79
  go_wp2_with fail
  refine KO.out.mono ?_
  rintro x w1 ⟨rfl, rfl⟩
  go_wp2
  go_ret
  exact ⟨rfl, rfl⟩
theorem sectors_any {W : World} {D P L M n k : Nat} {off : Bool} {uses : Int} {armed : Bool} {left : Int} {las : List (List UInt8)} {f : Int → Option (List UInt8)} (h : DevAt W D P L M n k off uses armed left las f) :
    Calls Tryz.prog 52 #[.pointer (some ⟨D, 0, none⟩)] W fun e w' => e = .returned (.int .i64 (n : Int)) ∧ W = w' := by
  have h1 := h.d1
  go_enter Tryz.func52, Tryz.ntmps52
  go_wp2
  go_ret
  exact ⟨rfl, rfl⟩
def hasB (n : Nat) (i : Int) : Bool := decide (0 ≤ i) && decide (i < (n : Int))
theorem has_any {W : World} {D P L M n k : Nat} {off : Bool} {uses : Int} {armed : Bool} {left : Int} {las : List (List UInt8)} {f : Int → Option (List UInt8)} (h : DevAt W D P L M n k off uses armed left las f) (i : Int) :
    Calls Tryz.prog 81 #[.pointer (some ⟨D, 0, none⟩), .int .i64 i] W fun e w' => e = .returned (.bool (hasB n i)) ∧ W = w' := by
  have KS := Lib.hid (sectors_any h)
  have HB : Hid (hasB n i = (decide (0 ≤ i) && decide (i < (n : Int)))) := rfl
  by_cases h0 : 0 ≤ i
  · by_cases h1 : i < (n : Int)
    · have d0 := Lib.hid (decide_eq_true h0)
      have d1 := Lib.hid (decide_eq_true h1)
      go_enter Tryz.func81, Tryz.ntmps81
      go_wp2_with fail
      refine KS.out.mono ?_
      rintro x w1 ⟨rfl, rfl⟩
      go_wp2
      go_ret
      exact ⟨by rw [HB.out, d0.out, d1.out]; rfl, rfl⟩
    · have d0 := Lib.hid (decide_eq_true h0)
      have d1 := Lib.hid (decide_eq_false h1)
      have h1 : (n : Int) ≤ i := by omega
      go_enter Tryz.func81, Tryz.ntmps81
      go_wp2_with fail
      refine KS.out.mono ?_
      rintro x w1 ⟨rfl, rfl⟩
      go_wp2
      go_ret
      exact ⟨by rw [HB.out, d0.out, d1.out]; rfl, rfl⟩
  · have d0 := Lib.hid (decide_eq_false h0)
    have h0 : i < 0 := by omega
    go_enter Tryz.func81, Tryz.ntmps81
    go_wp2
    go_ret
    exact ⟨by rw [HB.out, d0.out]; rfl, rfl⟩
end Go.Proofs.YtkemhkmabbladaaGreatDoor.Dv

namespace Go.Proofs.YtkemhkmabbladaaGreatDoor.Dv
open Go.RowKit

set_option maxRecDepth 10000 in
theorem blank_cells : secC blank64 = List.replicate 64 (Value.int .u8 0) := rfl
theorem las_blank : ∀ n : Nat, lasC (List.replicate n blank64) = List.replicate (64 * n) (Value.int .u8 0)
  | 0 => rfl
  | n + 1 => by
    have h := las_blank n
    unfold lasC at h ⊢
    rw [List.replicate_succ, List.flatMap_cons, h, blank_cells, List.replicate_append_replicate]
    congr 1; omega
theorem made_blank (n : Nat) : madeCells (secC blank64).toArray (n * 64) = (lasC (List.replicate n blank64)).toArray := by
  apply Array.ext'
  rw [las_blank]
  unfold madeCells
  rw [Array.toList_map, Array.toList_range]
  show List.map _ (List.range (n * 64)) = List.replicate (64 * n) (Value.int .u8 0)
  rw [List.eq_replicate_iff]
  refine ⟨by simp; omega, fun b hb => ?_⟩
  obtain ⟨i, _, rfl⟩ := List.mem_map.1 hb
  have hz : (secC blank64).toArray.size = 64 := by rw [List.size_toArray, secC_len, blank64_len]
  have hi : i % (secC blank64).toArray.size < (secC blank64).toArray.size := Nat.mod_lt _ (by omega)
  rw [getElem!_pos (secC blank64).toArray _ hi]
  have hm : (secC blank64).toArray[i % (secC blank64).toArray.size] ∈ (secC blank64) := by simp
  have key : ∀ v ∈ secC blank64, v = Value.int .u8 0 := by rw [blank_cells]; exact fun v hv => List.eq_of_mem_replicate hv
  exact key _ hm
theorem infoKB : (Tryz.prog.info? 129).map (fun i => (i.zero, i.size, i.bytes)) = some (some (secV blank64), 64, 64) := by kernel_rfl
theorem make_las (n : Nat) (hn : n ≤ 4096) (W : World) :
    (Instr.makeSlice 101 (.int .i64 (n : Int)) (.int .i64 (n : Int))).run Tryz.prog W = .ok (.slice (some ⟨W.heap.size, 0, none⟩) n n) (W.alloc (.cells (lasC (List.replicate n blank64)).toArray 129)) := by
  obtain ⟨i, hi, hzz⟩ := Option.map_eq_some_iff.1 infoKB
  simp only [Prod.mk.injEq] at hzz
  obtain ⟨hz, hs, hb⟩ := hzz
  have hr := run_make (P := Tryz.prog) W 101 129 i (secV blank64) Tryz.underlying101 hi hz .i64 .i64 (n : Int) (n : Int) (by omega) (Int.le_refl _) (by rw [hb]; omega) (by omega)
  rw [Int.toNat_natCast, hs] at hr
  rw [hr]
  have : (secV blank64).cells = (secC blank64).toArray := rfl
  rw [this, made_blank]
/-- A new device: what stands behind the call. -/
def NewPost (w : World) (n : Nat) (e : Ending) (w' : World) : Prop :=
  e = .returned (.pointer (some ⟨w.heap.size + 1 + 1 + 1, 0, none⟩)) ∧ DevAt w' (w.heap.size + 1 + 1 + 1) w.heap.size (w.heap.size + 1) (w.heap.size + 1 + 1) n 0 false 0 false 0 (List.replicate n blank64) (fun _ => none) ∧ Below w.heap.size w w'
theorem new_cell {W : World} {cs : Array Value} {T : TypeId} {g i : Nat} {v : Value} (hg : g = W.heap.size) (hv : cs[i]? = some v) : (W.alloc (.cells cs T)).cell? ⟨g, i, none⟩ = some v := by
  subst hg
  rw [cell_of_row _ W.heap.size i cs T (0, 0) (hp_new rfl)]; exact hv
theorem keep_alloc {W : World} {o : Obj} {p : Addr} {v : Value} (hc : W.cell? p = some v) : (W.alloc o).cell? p = some v :=
  (World.cell?_of_block (by
    have hlt := block_lt hc
    show (W.heap.push o)[p.block]? = W.heap[p.block]?
    rw [Array.getElem?_push, if_neg (by omega)])).trans hc
set_option maxHeartbeats 1000000 in
theorem new_any (n : Nat) (w : World) (h1 : 1 ≤ n) (h2 : n ≤ 4096) : Calls Tryz.prog 18 #[.pointer none, .int .i64 (n : Int)] w (NewPost w n) := by
  have hmk := make_las n h2
  have hmm := @run_makeMap Tryz.prog
  have b1 : (1 : Int) ≤ (n : Int) := by omega
  have b2 : (n : Int) ≤ 4096 := by omega
  generalize hC : (lasC (List.replicate n blank64)).toArray = C at hmk
  have HC := Lib.hid hC; clear hC
  go_enter Tryz.func18, Tryz.ntmps18
  go_wp2
  go_ret
  rw [← HC.out]
  refine ⟨rfl, ⟨?_, ?_, ?_, ?_, ?_, ?_, ?_, ?_, ?_, ?_, ?_, ?_, ?_, ?_, ?_, ?_, ?_, ?_⟩, ?_⟩
  · exact new_cell (by simp only [World.size_alloc]) rfl
  · exact new_cell (by simp only [World.size_alloc]) rfl
  · exact new_cell (by simp only [World.size_alloc]) rfl
  · exact keep_alloc (keep_alloc (keep_alloc (new_cell rfl rfl)))
  · exact keep_alloc (keep_alloc (keep_alloc (new_cell rfl rfl)))
  · exact keep_alloc (keep_alloc (keep_alloc (new_cell rfl rfl)))
  · exact keep_alloc (keep_alloc (keep_alloc (new_cell rfl rfl)))
  · intro i
    rw [World.frozen?_alloc_past _ _ _ (by simp only [World.size_alloc]; omega), World.frozen?_alloc_past _ _ _ (by simp only [World.size_alloc]; omega), World.frozen?_alloc_past _ _ _ (by simp only [World.size_alloc]; omega)]
    exact World.frozen?_alloc_at _ _ _ _ rfl
  · exact hp_old (hp_old (hp_new (by simp only [World.size_alloc])))
  · exact List.length_replicate
  · intro l hl
    rw [List.eq_of_mem_replicate hl]; exact blank64_len
  · have h := (LooseAt.made ((w.alloc (.cells #[.bool false, .int .i64 0, .bool false, .int .i64 0] 100)).alloc (.cells (lasC (List.replicate n blank64)).toArray 129)))
    simp only [World.size_alloc] at h
    exact h.below ((Below.refl _ _).alloc (Nat.le_refl _) _)
  all_goals first
    | (exact fun e => by omega)
    | exact ((((Below.refl _ w).alloc (Nat.le_refl _) _).alloc (by simp only [World.size_alloc]; omega) _).alloc (by simp only [World.size_alloc]; omega) _).alloc (by simp only [World.size_alloc]; omega) _
end Go.Proofs.YtkemhkmabbladaaGreatDoor.Dv

namespace Go.Proofs.YtkemhkmabbladaaGreatDoor.Dv
open Go.RowKit

theorem wset_below {W : World} {B b i : Nat} {v : Value} (hb : B ≤ b) : Below B W (W.setCell ⟨b, i, none⟩ v) := (Below.refl _ _).setCell hb v
def WritePost (W : World) (D P L M n k : Nat) (uses left : Int) (las : List (List UInt8)) (f : Int → Option (List UInt8)) (i : Int) (l : List UInt8) (B : Nat) (e : Ending) (w' : World) : Prop :=
  e = .returned (.int .i64 0) ∧ DevAt w' D P L M n (k + 1) false (uses + 1) false left las (upd f i (some (pad l))) ∧ Below B W w'
set_option linter.unusedSimpArgs false in
set_option maxRecDepth 100000 in
set_option maxHeartbeats 2000000 in
theorem write_ok {W : World} {D P L M n k B : Nat} {uses left : Int} {las : List (List UInt8)} {f : Int → Option (List UInt8)} (h : DevAt W D P L M n k false uses false left las f) (hu : 0 ≤ uses ∧ uses ≤ 1000000000) (hk : k ≤ 1000000)
    (hB : B ≤ P ∧ B ≤ M) (hBW : B ≤ W.heap.size) (i : Int) (hi : 0 ≤ i ∧ i < (n : Int)) (hn : n ≤ 4096) (sa : Option Addr) (ss : List ByteArray) (c : Nat) (hs : ss.length ≤ 1000000) (hsa : StrsAt W sa ss) (hz : ∀ i, (ss.getD i ByteArray.empty).size ≤ 140737488355328) (hfit : (joined ss).length ≤ 64) (hsP : ∀ b off, sa = some ⟨b, off, none⟩ → b ≠ P) :
    Calls Tryz.prog 53 #[.pointer (some ⟨D, 0, none⟩), .int .i64 i, .slice sa ss.length c] W (WritePost W D P L M n k uses left las f i (joined ss) B) := by
  have KU := Lib.hid (use_on h hu)
  have hd := h.d0
  have h' := (h.pow).2.1 (uses + 1)
  have hsa' : StrsAt (W.setCell ⟨P, 1, none⟩ (.int .i64 (uses + 1))) sa ss := by
    rcases hsa with e | ⟨b, off, e, hc⟩
    · exact .inl e
    · refine .inr ⟨b, off, e, fun i hi => ?_⟩
      rw [World.cell?_setCell_other _ _ _ _ (fun x => by injection x with x1 _; exact hsP b off e x1.symm)]
      exact hc i hi
  obtain ⟨W1, hW1⟩ : ∃ W1, W1 = W.setCell ⟨P, 1, none⟩ (.int .i64 (uses + 1)) := ⟨_, rfl⟩
  rw [← hW1] at h' hsa' KU
  have hb1 : Below B W W1 := by rw [hW1]; exact wset_below hB.1
  clear hW1
  have KL := Lib.hid (lay_any sa ss c W1 hs hsa' hz)
  obtain ⟨C, hC⟩ : ∃ C, C = (secC (pad (joined ss))).toArray := ⟨_, rfl⟩
  have hlv : layV ss = .tuple #[.agg C, .bool true] := by unfold layV; rw [if_pos hfit, hC]; rfl
  rw [hlv] at KL
  have z3 : (Tryz.prog.info? 129).map (·.size) = some C.size := by rw [hC]; exact sec_info hfit
  have z1 : zeroC.size = C.size := by
    have e : C.size = 64 := by rw [hC, List.size_toArray, secC_len, pad_len hfit]
    rw [e]; rfl
  have z2 : C.all (·.oneCell') = true := by rw [hC]; exact secV_one _
  have HC := Lib.hid hC
  clear hC hlv
  go_enter Tryz.func53, Tryz.ntmps53
  go_wp2_with fail
  refine KU.out.mono ?_
  rintro x w1 ⟨rfl, rfl⟩
  go_wp2_with fail
  refine KL.out.mono ?_
  rintro x w2 ⟨rfl, hb2⟩
  have h2 := h'.below hb2
  have hb3 : Below B W w2 := hb1.trans (hb2.mono (Nat.le_trans hBW (by rename_i hs1; exact hb1.size)))
  clear hb2 h' hsa' KU KL
  go_wp2_with (first
    | (refine wpList_store_row rfl 129 _ _ rfl w2.heap.size C rfl rfl 129 zeroC (hp_new rfl) z3 z1 z2 ?_; rw [World.setRow_alloc_new])
    | fail)
  have h3 := h2.below ((Below.refl _ _).alloc (o := .cells C 129) (Nat.le_refl _))
  have hH : hasB n i = true := by unfold hasB; rw [decide_eq_true hi.1, decide_eq_true hi.2]; rfl
  have KH := Lib.hid (has_any h3 i)
  rw [hH] at KH
  refine KH.out.mono ?_
  rintro x W3 ⟨rfl, hW3⟩
  rw [hW3] at h3
  have hrow : W3.heap[w2.heap.size]? = some (.cells C 129 (0, 0)) := by rw [← hW3]; exact hp_new rfl
  have hb4 : Below B W W3 := by rw [← hW3]; exact hb3.alloc (Nat.le_trans hBW hb3.size) _
  have h5 := h3.below (W' := W3.drew) ((Below.refl _ _).drew)
  have hsc : C.size = 64 := by rw [HC.out, List.size_toArray, secC_len, pad_len hfit]
  have kld : (Instr.loadAt 129 (.pointer (some ⟨w2.heap.size, 0, none⟩))).run Tryz.prog W3.drew = .ok (.agg C) W3.drew := by
    simp only [Instr.loadAt, Instr.sureAddr, Sem.run_bind, Sem.run_pure, Result.andThen_ok]
    exact run_loadVar_row _ w2.heap.size 129 129 C (0, 0) _ hrow Tryz.underlying129 rfl z3
  obtain ⟨W4, kst, hm4, hg4⟩ := h5.mp.store i (by have := hi.1; have := hi.2; exact WalkArith.wf_i64 (by omega)) (pad (joined ss)) (pad_len hfit) (by unfold maxLen; omega)
  have h6 := h5.map hg4 hm4
  have hb5 : Below B W W4 := (hb4.drew).grown hg4 (Nat.le_trans hBW hb4.size) (fun k hk => by cases hk; exact hB.2)
  rw [show secV (pad (joined ss)) = .agg C by rw [HC.out]; rfl] at kst
  have hd2 := h5.d2
  have H6 := Lib.hid h6
  have hd4 := h6.d2
  have hrg : W3.drew.rangeAt w2.heap.size 0 C.toList := fun j v hv => by
    rw [Nat.zero_add, cell_of_row W3.drew w2.heap.size j C _ _ hrow]; simpa using hv
  have hMb : M ≠ w2.heap.size := by have := h2.mp; obtain ⟨_, hM, _⟩ := this; have := hM.lt; omega
  have hrg4 : W4.rangeAt w2.heap.size 0 C.toList := fun j v hv => cell_apart hg4 (fun e => hMb e.symm) (hrg j v hv)
  clear h2 h3 hW3 hb3 hb4 h5 hm4 hg4 h6 hb1 z1 z2 HC KH
  go_wp2_with fail
  refine wp_region_held_drew (S := (fun w' => w'.cell? ⟨D, 2, none⟩ = some (.map (some M)) ∧ w'.rangeAt w2.heap.size 0 C.toList)) (by kernel_rfl) ?_ (fun hHeld => ?_)
  · (try dsimp only); exact ⟨(by first | exact hd2 | exact hd4), (by first | exact hrg | exact hrg4)⟩
  refine wpAnyH_take (i := 0) (v := ?_) rfl (by kernel_rfl) (by kernel_rfl) (by kernel_rfl) (fun _ _ _ h => h) (Or.inl ⟨by rfl, ?_⟩) (by assumption) ?_
  rotate_left 1
  · (intro w' hSw; (try dsimp only at hSw); go_simp; try (with_reducible rfl))
  try simp only [Act.put, List.setIfInBounds_toArray, List.set_cons_zero, List.set_cons_succ]
  refine wpAnyH_take (i := 1) (v := ?_) rfl (by kernel_rfl) (by kernel_rfl) (by kernel_rfl) (fun _ _ _ h => h) (Or.inl ⟨by rfl, ?_⟩) (by assumption) ?_
  rotate_left 1
  · (intro w' hSw; (try dsimp only at hSw); go_simp; try (with_reducible rfl))
  try simp only [Act.put, List.setIfInBounds_toArray, List.set_cons_zero, List.set_cons_succ]
  refine wpAnyH_take (i := 2) (v := ?_) rfl (by kernel_rfl) (by kernel_rfl) (by kernel_rfl) (fun _ _ _ h => h) (Or.inl ⟨by rfl, ?_⟩) (by assumption) ?_
  rotate_left 1
  · (intro w' hSw; (try dsimp only at hSw); go_simp; try (with_reducible rfl))
  try simp only [Act.put, List.setIfInBounds_toArray, List.set_cons_zero, List.set_cons_succ]
  refine wpAnyH_take (i := 3) (v := ?_) rfl (by kernel_rfl) (by kernel_rfl) (by kernel_rfl) (fun _ _ _ h => h) (Or.inl ⟨by rfl, ?_⟩) (by assumption) ?_
  rotate_left 1
  · (intro w' hSw; (try dsimp only at hSw); go_simp; try (with_reducible rfl))
  try simp only [Act.put, List.setIfInBounds_toArray, List.set_cons_zero, List.set_cons_succ]
  refine wpAnyH_take (i := 4) (v := ?_) rfl (by kernel_rfl) (by kernel_rfl) (by kernel_rfl) (fun _ _ _ h => h) (Or.inl ⟨by rfl, ?_⟩) (by assumption) ?_
  rotate_left 1
  · (intro w' hSw; (try dsimp only at hSw); go_simp; try (with_reducible rfl))
  try simp only [Act.put, List.setIfInBounds_toArray, List.set_cons_zero, List.set_cons_succ]
  refine wpAnyH_take (i := 5) (v := .agg C.toList.toArray) rfl (by kernel_rfl) (by kernel_rfl) (by kernel_rfl) (fun _ _ _ h => h) (yieldsIf_load_mid (by rfl) 129 _ rfl w2.heap.size 0 rfl C.toList _ (fun w hw => hw.2) Tryz.underlying129 rfl (by rw [Array.length_toList]; exact z3)) (by assumption) ?_
  simp only [Act.put, List.setIfInBounds_toArray, Array.toArray_toList, List.set_cons_zero, List.set_cons_succ]
  refine wpAnyH_ready (rs := [6]) (by kernel_rfl) (by simp) ?_
  refine AllReadyH.cons rfl (fun K hK => ?_) AllReadyH.nil
  go_simp
  refine hK.out _ _ ?_ (fun hHeld => ?_)
  · (try dsimp only); exact ⟨(by first | exact hd2 | exact hd4), (by first | exact hrg | exact hrg4)⟩
  clear hK K
  refine wpAnyH_done (by kernel_rfl) ?_ _
  go_wp2
  go_ret
  exact ⟨rfl, H6.out, hb5⟩
end Go.Proofs.YtkemhkmabbladaaGreatDoor.Dv

namespace Go.Proofs.YtkemhkmabbladaaGreatDoor.Dv
open Go.RowKit

def txt (l : List UInt8) : ByteArray := ⟨l.toArray⟩
/-- A sector as a text. -/
theorem conv_sec {W : World} {b o : Nat} {l : List UInt8} (h : W.rangeAt b o (secC l)) (hl : l.length = 64) :
    (convert 134 9 (.slice (some ⟨b, o, none⟩) 64 64)).run Tryz.prog W = .ok (.string (txt l)) W := by
  have hr := run_convert_bytes_back W 134 9 5 ⟨b, o, none⟩ 64 l Tryz.underlying134 Tryz.underlying5 Tryz.underlying9 (fun j hj => by
    rw [Addr.add_mid]
    exact h j _ (by unfold secC Lib.byteCells; rw [List.getElem?_map, List.getElem?_eq_getElem hj]; rfl))
  rw [hl] at hr
  exact hr
theorem row_range {W : World} {b : Nat} {l : List UInt8} {T : TypeId} (h : W.heap[b]? = some (.cells (secC l).toArray T (0, 0))) : W.rangeAt b 0 (secC l) := fun j v hv => by
  rw [Nat.zero_add, cell_of_row W b j _ _ _ h]; simpa using hv
set_option maxRecDepth 100000 in
theorem slice_sec (W : World) (b o : Nat) : (Instr.sliceAt 129 (.pointer (some ⟨b, o, none⟩)) none none none).run Tryz.prog W = .ok (.slice (some ⟨b, o, none⟩) 64 64) W := by
  have hA : Tryz.prog.arrayLen 129 = 64 := by kernel_rfl
  have hsl := run_sliceAt_array_all (P := Tryz.prog) W 129 ⟨b, o, none⟩ (by kernel_rfl)
  rw [hA] at hsl
  have he : (sizeOf (Tryz.prog.elem 129)).run Tryz.prog W = .ok 1 W := Tryz.sizeOf5 W
  rw [he] at hsl
  simp only [Result.andThen, slicedAt] at hsl
  rw [hsl, if_neg (by omega), Addr.add_mid]
  simp
theorem las_range {W : World} {L : Nat} {T : TypeId} : ∀ {las pre : List (List UInt8)} {j : Nat}, (∀ x ∈ pre ++ las, x.length = 64) → W.heap[L]? = some (.cells (lasC (pre ++ las)).toArray T (0, 0)) → j < las.length →
    W.rangeAt L ((pre.length + j) * 64) (secC (las.getD j blank64)) := by
  intro las pre j h64 hh hj k v hv
  have hsplit : pre ++ las = (pre ++ las.take j) ++ (las.getD j blank64 :: las.drop (j + 1)) := by
    rw [List.append_assoc]
    congr 1
    rw [List.getD_eq_getElem?_getD, List.getElem?_eq_getElem hj]
    simp
  have hlen : (lasC (pre ++ las.take j)).length = (pre.length + j) * 64 := by
    rw [lasC_len (fun x hx => h64 x (by
      rcases List.mem_append.1 hx with h | h
      · exact List.mem_append_left _ h
      · exact List.mem_append_right _ (List.mem_of_mem_take h))), List.length_append, List.length_take]
    rw [Nat.min_eq_left (by omega)]; omega
  rw [cell_of_row W L _ _ _ _ hh, List.getElem?_toArray, hsplit]
  unfold lasC at hlen ⊢
  rw [List.flatMap_append, List.getElem?_append_right (by omega), hlen, Nat.add_sub_cancel_left, List.flatMap_cons]
  have hk : k < (secC (las.getD j blank64)).length := (List.getElem?_eq_some_iff.1 hv).1
  rw [List.getElem?_append_left hk]; exact hv
section
variable {W : World} {D P L M n k : Nat} {off : Bool} {uses : Int} {armed : Bool} {left : Int} {las : List (List UInt8)} {f : Int → Option (List UInt8)}
theorem DevAt.sec (h : DevAt W D P L M n k off uses armed left las f) (j : Nat) (hj : j < n) : W.rangeAt L (j * 64) (secC (las.getD j blank64)) := by
  have := las_range (las := las) (pre := []) (j := j) h.l64 h.lb (by rw [h.ll]; exact hj)
  simpa using this
theorem DevAt.len64 (h : DevAt W D P L M n k off uses armed left las f) (j : Nat) : (las.getD j blank64).length = 64 := by
  rw [List.getD_eq_getElem?_getD]
  cases hx : las[j]? with
  | none => exact blank64_len
  | some l => exact h.l64 l (List.mem_of_getElem? hx)
theorem devOn (h : DevAt W D P L M n k off uses armed left las f) :
    Calls Tryz.prog 85 #[.pointer (some ⟨D, 0, none⟩)] W fun e w' => e = .returned (.bool (!off)) ∧ W = w' := by
  have KO := Lib.hid (powOn_any P off W h.p0)
  have hd := h.d0
  go_enter Tryz.func85, Tryz.ntmps85
  go_wp2_with fail
  refine KO.out.mono ?_
  rintro x w1 ⟨rfl, rfl⟩
  go_wp2
  go_ret
  exact ⟨rfl, rfl⟩
set_option maxHeartbeats 1000000 in
theorem lasts_any (h : DevAt W D P L M n k off uses armed left las f) (j : Nat) (hj : j < n) :
    Calls Tryz.prog 86 #[.pointer (some ⟨D, 0, none⟩), .int .i64 (j : Int)] W fun e w' => e = .returned (.string (txt (las.getD j blank64))) ∧ W = w' := by
  have KH := Lib.hid (has_any h (j : Int))
  have hH : hasB n (j : Int) = true := by unfold hasB; rw [decide_eq_true (by omega), decide_eq_true (by omega)]; rfl
  rw [hH] at KH
  have hd := h.d1
  have ksl := slice_sec W L (j * 64)
  have kc := conv_sec (h.sec j hj) (h.len64 j)
  have hj0 : (0 : Int) ≤ (j : Int) := by omega
  have hj1 : (j : Int) < (n : Int) := by omega
  generalize txt (las.getD j blank64) = T at kc ⊢
  go_enter Tryz.func86, Tryz.ntmps86
  go_wp2_with fail
  refine KH.out.mono ?_
  rintro x w1 ⟨rfl, rfl⟩
  go_wp2
  go_ret
  exact ⟨rfl, rfl⟩
/-- A sector as it is read. -/
def secAt (las : List (List UInt8)) (f : Int → Option (List UInt8)) (j : Nat) : List UInt8 := match f (j : Int) with
  | some l => l
  | none => las.getD j blank64
set_option maxRecDepth 100000 in
set_option maxHeartbeats 2000000 in
theorem read_any (h : DevAt W D P L M n k false uses armed left las f) (j : Nat) (hj : j < n) (hn : n ≤ 4096) (hf : ∀ l, f (j : Int) = some l → l.length = 64) :
    Calls Tryz.prog 66 #[.pointer (some ⟨D, 0, none⟩), .int .i64 (j : Int)] W fun e w' => e = .returned (.tuple #[.string (txt (secAt las f j)), .int .i64 0]) ∧ Below W.heap.size W w' := by
  have KO := Lib.hid (devOn h)
  have KH := Lib.hid (has_any h (j : Int))
  have hH : hasB n (j : Int) = true := by unfold hasB; rw [decide_eq_true (by omega), decide_eq_true (by omega)]; rfl
  rw [hH] at KH
  have hd := h.d2
  have klk := h.mp.look (j : Int) (WalkArith.wf_i64 (by omega))
  cases hfj : f (j : Int) with
  | some l =>
    have hl := hf l hfj
    have hA : secAt las f j = l := by unfold secAt; rw [hfj]
    rw [hA]
    obtain ⟨C, hC⟩ : ∃ C, C = (secC l).toArray := ⟨_, rfl⟩
    have hlv : lookV f (j : Int) = .tuple #[.agg C, .bool true] := by unfold lookV; rw [hfj, hC]; rfl
    rw [hlv] at klk
    have z3 : (Tryz.prog.info? 129).map (·.size) = some C.size := by
      rw [hC, List.size_toArray, secC_len, hl]; exact (zero_of_info infoK).2
    have z1 : zeroC.size = C.size := by
      have e : C.size = 64 := by rw [hC, List.size_toArray, secC_len, hl]
      rw [e]; rfl
    have z2 : C.all (·.oneCell') = true := by rw [hC]; exact secV_one _
    have ksl := slice_sec (W.alloc (.cells C 129)) W.heap.size 0
    have kc := conv_sec (W := W.alloc (.cells C 129)) (b := W.heap.size) (o := 0) (l := l) (row_range (T := 129) (by rw [← hC]; exact hp_new rfl)) hl
    generalize txt l = T at kc ⊢
    clear hC hlv hA hfj hf
    go_enter Tryz.func66, Tryz.ntmps66
    go_wp2_with fail
    refine KO.out.mono ?_
    rintro x w1 ⟨rfl, rfl⟩
    go_wp2_with fail
    refine KH.out.mono ?_
    rintro x w1 ⟨rfl, rfl⟩
    go_wp2_with (first
      | (refine wpList_store_row rfl 129 _ _ rfl W.heap.size C rfl rfl 129 zeroC (hp_new rfl) z3 z1 z2 ?_; rw [World.setRow_alloc_new])
      | fail)
    go_ret2
    exact ⟨rfl, (Below.refl _ _).alloc (Nat.le_refl _) _⟩
  | none =>
    have hA : secAt las f j = las.getD j blank64 := by unfold secAt; rw [hfj]
    rw [hA]
    obtain ⟨C, hC⟩ : ∃ C, C = (secC blank64).toArray := ⟨_, rfl⟩
    have hlv : lookV f (j : Int) = .tuple #[.agg C, .bool false] := by unfold lookV; rw [hfj, hC]; rfl
    rw [hlv] at klk
    have z3 : (Tryz.prog.info? 129).map (·.size) = some C.size := by
      rw [hC, List.size_toArray, secC_len, blank64_len]; exact (zero_of_info infoK).2
    have z1 : zeroC.size = C.size := by
      have e : C.size = 64 := by rw [hC, List.size_toArray, secC_len, blank64_len]
      rw [e]; rfl
    have z2 : C.all (·.oneCell') = true := by rw [hC]; exact secV_one _
    have KL := Lib.hid (lasts_any (h.below ((Below.refl _ _).alloc (o := .cells C 129) (Nat.le_refl _))) j hj)
    generalize txt (las.getD j blank64) = T at KL ⊢
    clear hC hlv hA hfj hf
    go_enter Tryz.func66, Tryz.ntmps66
    go_wp2_with fail
    refine KO.out.mono ?_
    rintro x w1 ⟨rfl, rfl⟩
    go_wp2_with fail
    refine KH.out.mono ?_
    rintro x w1 ⟨rfl, rfl⟩
    go_wp2_with (first
      | (refine wpList_store_row rfl 129 _ _ rfl W.heap.size C rfl rfl 129 zeroC (hp_new rfl) z3 z1 z2 ?_; rw [World.setRow_alloc_new])
      | fail)
    refine KL.out.mono ?_
    rintro x w1 ⟨rfl, hw1⟩
    go_wp2
    go_ret2
    exact ⟨rfl, by rw [← hw1]; exact (Below.refl _ _).alloc (Nat.le_refl _) _⟩
end
end Go.Proofs.YtkemhkmabbladaaGreatDoor.Dv

namespace Go.Proofs.YtkemhkmabbladaaGreatDoor.Dv
open Go.RowKit

theorem las_set {las : List (List UInt8)} {j : Nat} {l : List UInt8} (h64 : ∀ x ∈ las, x.length = 64) (hj : j < las.length) :
    lasC (las.set j l) = (lasC las).take (j * 64) ++ secC l ++ (lasC las).drop (j * 64 + 64) := by
  have hs : las = las.take j ++ (las[j] :: las.drop (j + 1)) := by simp
  have ht : (lasC (las.take j)).length = j * 64 := by
    rw [lasC_len (fun x hx => h64 x (List.mem_of_mem_take hx)), List.length_take, Nat.min_eq_left (by omega)]; omega
  have hx : (secC las[j]).length = 64 := by rw [secC_len]; exact h64 _ (List.getElem_mem hj)
  have hc : lasC las = lasC (las.take j) ++ (secC las[j] ++ lasC (las.drop (j + 1))) := by
    conv => lhs; rw [hs]
    unfold lasC
    rw [List.flatMap_append, List.flatMap_cons]
  have hset : las.set j l = las.take j ++ (l :: las.drop (j + 1)) := List.set_eq_take_append_cons_drop.trans (by rw [if_pos hj])
  rw [hset, hc]
  have e1 : (lasC (las.take j) ++ (secC las[j] ++ lasC (las.drop (j + 1)))).take (j * 64) = lasC (las.take j) := by rw [← ht, List.take_left]
  have e2 : (lasC (las.take j) ++ (secC las[j] ++ lasC (las.drop (j + 1)))).drop (j * 64 + 64) = lasC (las.drop (j + 1)) := by
    rw [← List.append_assoc, List.drop_append_of_le_length (by rw [List.length_append]; omega), List.drop_of_length_le (by rw [List.length_append]; omega)]
    rfl
  rw [e1, e2]
  unfold lasC
  rw [List.flatMap_append, List.flatMap_cons, List.append_assoc]
section
variable {W : World} {D P L M n k : Nat} {off : Bool} {uses : Int} {armed : Bool} {left : Int} {las : List (List UInt8)} {f : Int → Option (List UInt8)}
theorem setRow_grown (W : World) (g : Nat) (cs : Array Value) : W.grownBy (W.setRow g cs) (some g) :=
  ⟨rfl, rfl, rfl, by show W.heap.size ≤ (W.heap.modify g _).size; rw [Array.size_modify]; exact Nat.le_refl _, fun k _ hk => setRow_old (fun e => hk (by rw [e]))⟩
theorem DevAt.setLas (h : DevAt W D P L M n k off uses armed left las f) (j : Nat) (l : List UInt8) (hl : l.length = 64) : DevAt (W.setRow L (lasC (las.set j l)).toArray) D P L M n k off uses armed left (las.set j l) f :=
  have hg := setRow_grown W L (lasC (las.set j l)).toArray
  { d0 := cell_apart hg h.dl h.d0, d1 := cell_apart hg h.dl h.d1, d2 := cell_apart hg h.dl h.d2, p0 := cell_apart hg h.pl h.p0, p1 := cell_apart hg h.pl h.p1, p2 := cell_apart hg h.pl h.p2, p3 := cell_apart hg h.pl h.p3,
    pf := fun i => (World.frozen?_of_block (hg.block P (block_lt (p := ⟨P, 0, none⟩) h.p0) (by simpa using h.pl))).trans (h.pf i),
    lb := setRow_heap _ _ _ _ _ _ h.lb, ll := by rw [List.length_set]; exact h.ll,
    l64 := fun x hx => by
      rcases List.mem_or_eq_of_mem_set hx with h' | h'
      · exact h.l64 x h'
      · rw [h']; exact hl
    mp := h.mp.kept hg (by simpa using h.lm.symm), dp := h.dp, dl := h.dl, dm := h.dm, pl := h.pl, pm := h.pm, lm := h.lm }
theorem DevAt.store (h : DevAt W D P L M n k off uses armed left las f) (j : Nat) (hj : j < n) (l : List UInt8) (hl : l.length = 64) :
    (storeVar 129 ⟨L, j * 64, none⟩ (.agg (secC l).toArray)).run Tryz.prog W = .ok () (W.setRow L (lasC (las.set j l)).toArray) := by
  have hz : (lasC las).toArray.size = 64 * n := by rw [List.size_toArray, lasC_len h.l64, h.ll]
  have hst := run_storeCells_at Tryz.prog L (j * 64) 129 (secC l) 0 _ W h.lb (by rw [hz, secC_len, hl]; omega) (Lib.byteCells_one l)
  rw [secC_len, hl, Nat.add_zero] at hst
  have hi : (Tryz.prog.info? 129).map (·.size) = some 64 := (zero_of_info infoK).2
  cases hq : Tryz.prog.info? 129 with
  | none => simp [hq] at hi
  | some i =>
    have hs : i.size = 64 := by simpa [hq] using hi
    have hcs : (secC l).toArray.size = 64 := by rw [List.size_toArray, secC_len, hl]
    rw [las_set h.l64 (by rw [h.ll]; exact hj)]
    simp [storeVar, sizeOf, typeInfo, hq, Value.cells, hs, hcs] at hst ⊢
    exact hst
/-- What a crash makes of the sectors. -/
def keepLas (f : Int → Option (List UInt8)) (las : List (List UInt8)) (ks : List Int) : List (List UInt8) := ks.foldl (fun s z => match f z with
  | some l => s.set z.toNat l
  | none => s) las
theorem keepLas_snoc (f : Int → Option (List UInt8)) (las : List (List UInt8)) (ks : List Int) (z : Int) : keepLas f las (ks ++ [z]) = match f z with
  | some l => (keepLas f las ks).set z.toNat l
  | none => keepLas f las ks := by
  unfold keepLas; rw [List.foldl_append]; rfl
theorem wpList_store_eq {ops : Array Oper} {rest : List Oper} {op : Oper} {a : Act} {w w' : World} {Q : Exit → Act → World → Prop} {A : Addr} {v : Value} (hgd : op.guard = none) (ty : TypeId) (x y : Operand) (ho : op.op = .store ty x y)
    (hx : a.eval x = .pointer (some A)) (hy : a.eval y = v) (hr : (storeVar ty A v).run Tryz.prog w = .ok () w') (h : wpList Tryz.prog ops Q rest (a.put op.dst undef) w') : wpList Tryz.prog ops Q (op :: rest) a w :=
  wpList_plain hgd fun K hK => by
    unfold Oper.wp execOp
    simp only [ho, hx, hy, Instr.storeAt, Instr.sureAddr, Sem.run_bind, Sem.run_pure, Result.andThen_ok, hr]
    exact hK _ _ h
/-- A row is loaded where nothing is written. -/
theorem wpStill_load_row {ops : Array Oper} {rest : List Oper} {op : Oper} {a : Act} {w : World} {Q : Act → Prop} (hw : Region.wanted op (yielded ops a.tmps) = true) (ty : TypeId) (x : Operand) (ho : op.op = .load ty x)
    (b o : Nat) (hx : a.eval x = .pointer (some ⟨b, o, none⟩)) (cs : List Value) (d : TypeDesc) (hS : w.rangeAt b o cs) (hu : Tryz.prog.underlying ty = some d) (hd : d.isRow = true) (hi : (Tryz.prog.info? ty).map (·.size) = some cs.length)
    (h : wpStill Tryz.prog ops w Q rest (a.put op.dst (.agg cs.toArray))) : wpStill Tryz.prog ops w Q (op :: rest) a := by
  refine wpStill_step fun K hK => ?_
  rw [if_pos hw]
  have hrun : (execOp a.eval op).run Tryz.prog w = .ok (.value (.agg cs.toArray)) w := by
    rcases yieldsIf_load_mid (P := Tryz.prog) (ops := ops) (S := fun w' => w' = w) hw ty x ho b o hx cs d (fun w' e => by rw [e]; exact hS) hu hd hi with ⟨_, h1⟩ | ⟨h1, _⟩
    · exact h1 w rfl
    · rw [hw] at h1; cases h1
  unfold Oper.still
  rw [hrun]
  exact ⟨rfl, hK _ h⟩
/-- A row of ints, not in block L. -/
def IntsIn (w : World) (a : Option Addr) (L : Nat) (l : List Int) : Prop :=
  l = [] ∨ ∃ b off, a = some ⟨b, off, none⟩ ∧ b ≠ L ∧ ∀ i, i < l.length → w.cell? ⟨b, off + i, none⟩ = some (.int .i64 (l.getD i 0))
theorem take_one (l : List Int) (k : Nat) (h : k < l.length) : l.take (k + 1) = l.take k ++ [l.getD k 0] := by
  rw [List.take_succ_eq_append_getElem h]; simp [List.getD_eq_getElem?_getD, h]
end
end Go.Proofs.YtkemhkmabbladaaGreatDoor.Dv

namespace Go.Proofs.YtkemhkmabbladaaGreatDoor.Dv
open Go.RowKit
structure Fr3 (P L M : Nat) (W W' : World) : Prop where
  os : W'.os = W.os
  tape : W'.tape = W.tape
  output : W'.output = W.output
  size : W.heap.size ≤ W'.heap.size
  block : ∀ k, k < W.heap.size → k ≠ P → k ≠ L → k ≠ M → W'.heap[k]? = W.heap[k]?
theorem Fr3.refl (P L M : Nat) (W : World) : Fr3 P L M W W := ⟨rfl, rfl, rfl, Nat.le_refl _, fun _ _ _ _ _ => rfl⟩
theorem Fr3.trans {P L M : Nat} {a b c : World} (h : Fr3 P L M a b) (g : Fr3 P L M b c) : Fr3 P L M a c :=
  ⟨g.os.trans h.os, g.tape.trans h.tape, g.output.trans h.output, Nat.le_trans h.size g.size, fun k hk h1 h2 h3 => (g.block k (Nat.lt_of_lt_of_le hk h.size) h1 h2 h3).trans (h.block k hk h1 h2 h3)⟩
theorem Fr3.of_below {P L M : Nat} {W W' : World} (h : Below W.heap.size W W') : Fr3 P L M W W' := ⟨h.os, h.tape, h.output, h.size, fun k hk _ _ _ => h.block k hk⟩
theorem Fr3.of_grown {P L M : Nat} {W W' : World} {row : Option Nat} (h : W.grownBy W' row) (hr : ∀ k, row = some k → k = P ∨ k = L ∨ k = M) : Fr3 P L M W W' :=
  ⟨h.os, h.tape, h.output, h.size, fun k hk h1 h2 h3 => h.block k hk (fun e => by
    rcases hr k e.symm with e | e | e
    · exact h1 e
    · exact h2 e
    · exact h3 e)⟩
/-- A block that is new was written. -/
theorem Fr3.new {P L M R : Nat} {W wr w' : World} (h : Fr3 P L M W wr) (hg : wr.grownBy w' (some R)) (hR : W.heap.size ≤ R) : Fr3 P L M W w' :=
  ⟨hg.os.trans h.os, hg.tape.trans h.tape, hg.output.trans h.output, Nat.le_trans h.size hg.size, fun k hk h1 h2 h3 => (hg.block k (Nat.lt_of_lt_of_le hk h.size) (fun e => by injection e with e; omega)).trans (h.block k hk h1 h2 h3)⟩
theorem Fr3.setP {P L M : Nat} (W : World) (i : Nat) (v : Value) : Fr3 P L M W (W.setCell ⟨P, i, none⟩ v) := Fr3.of_grown (setCell_grown W P i v) (fun k e => by injection e with e; exact .inl e.symm)
theorem Fr3.below {P L M B : Nat} {W W' : World} (h : Fr3 P L M W W') (hB : B ≤ W.heap.size) (h1 : B ≤ P) (h2 : B ≤ L) (h3 : B ≤ M) : Below B W W' :=
  ⟨h.os, h.tape, h.output, h.size, fun k hk => h.block k (by omega) (by omega) (by omega) (by omega)⟩
theorem Fr3.cell {P L M : Nat} {W W' : World} (h : Fr3 P L M W W') {p : Addr} {v : Value} (hc : W.cell? p = some v) (h1 : p.block ≠ P) (h2 : p.block ≠ L) (h3 : p.block ≠ M) : W'.cell? p = some v :=
  (World.cell?_of_block (h.block p.block (block_lt hc) h1 h2 h3)).trans hc
/-- Another device of the same power. -/
theorem DevAt.other {W W' : World} {D P L M n k E L' M' n' k' : Nat} {off off' : Bool} {uses uses' : Int} {armed armed' : Bool} {left left' : Int} {las las' : List (List UInt8)} {f f' : Int → Option (List UInt8)}
    (h : DevAt W D P L M n k off uses armed left las f) (g : DevAt W' E P L' M' n' k' off' uses' armed' left' las' f') (hf : Fr3 P L' M' W W') (h1 : D ≠ L' ∧ D ≠ M') (h2 : L ≠ L' ∧ L ≠ M') (h3 : M ≠ L' ∧ M ≠ M') :
    DevAt W' D P L M n k off' uses' armed' left' las f where
  d0 := hf.cell h.d0 h.dp h1.1 h1.2
  d1 := hf.cell h.d1 h.dp h1.1 h1.2
  d2 := hf.cell h.d2 h.dp h1.1 h1.2
  p0 := g.p0
  p1 := g.p1
  p2 := g.p2
  p3 := g.p3
  pf := g.pf
  lb := (hf.block L (blk_lt h.lb) h.pl.symm h2.1 h2.2).trans h.lb
  ll := h.ll
  l64 := h.l64
  mp := by
    obtain ⟨D0, ⟨es, clock, hb, F, hs, hD⟩, h5⟩ := h.mp
    exact ⟨D0, ⟨es, clock, (hf.block M (blk_lt hb) h.pm.symm h3.1 h3.2).trans hb, F, hs, hD⟩, h5⟩
  dp := h.dp
  dl := h.dl
  dm := h.dm
  pl := h.pl
  pm := h.pm
  lm := h.lm
end Go.Proofs.YtkemhkmabbladaaGreatDoor.Dv
