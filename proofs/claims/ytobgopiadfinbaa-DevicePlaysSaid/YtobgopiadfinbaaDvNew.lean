/-
  THE CONTRACT OF device.New, of no power: a device of a power of its own.
-/
import Derived.Test.YtobgopiadfinbaaDvUse
import Derived.Laws.MakeOwn
namespace Go.Proofs.Ytobgopiadfinbaa
open Go.RowKit

set_option maxRecDepth 10000 in
theorem blank_cells : secC blank64 = List.replicate 64 (Value.int .u8 0) := rfl
theorem las_blank : ∀ n : Nat, lasC (List.replicate n blank64) = List.replicate (64 * n) (Value.int .u8 0)
  | 0 => rfl
  | n + 1 => by
    have h := las_blank n
    unfold lasC at h ⊢
    rw [List.replicate_succ, List.flatMap_cons, h, blank_cells, List.replicate_append_replicate]
    congr 1; omega
theorem made_blank (n : Nat) : madeCells (secC blank64).toArray (n * 64) = (lasC (List.replicate n blank64)).toArray := by
  apply Array.ext'
  rw [las_blank]
  unfold madeCells
  rw [Array.toList_map, Array.toList_range]
  show List.map _ (List.range (n * 64)) = List.replicate (64 * n) (Value.int .u8 0)
  rw [List.eq_replicate_iff]
  refine ⟨by simp; omega, fun b hb => ?_⟩
  obtain ⟨i, _, rfl⟩ := List.mem_map.1 hb
  have hz : (secC blank64).toArray.size = 64 := by rw [List.size_toArray, secC_len, blank64_len]
  have hi : i % (secC blank64).toArray.size < (secC blank64).toArray.size := Nat.mod_lt _ (by omega)
  rw [getElem!_pos (secC blank64).toArray _ hi]
  have hm : (secC blank64).toArray[i % (secC blank64).toArray.size] ∈ (secC blank64) := by simp
  have key : ∀ v ∈ secC blank64, v = Value.int .u8 0 := by rw [blank_cells]; exact fun v hv => List.eq_of_mem_replicate hv
  exact key _ hm
theorem infoKB : (Try.prog.info? 66).map (fun i => (i.zero, i.size, i.bytes)) = some (some (secV blank64), 64, 64) := by kernel_rfl
theorem make_las (n : Nat) (hn : n ≤ 4096) (W : World) :
    (Instr.makeSlice 50 (.int .i64 (n : Int)) (.int .i64 (n : Int))).run Try.prog W = .ok (.slice (some ⟨W.heap.size, 0, none⟩) n n) (W.alloc (.cells (lasC (List.replicate n blank64)).toArray 66)) := by
  obtain ⟨i, hi, hzz⟩ := Option.map_eq_some_iff.1 infoKB
  simp only [Prod.mk.injEq] at hzz
  obtain ⟨hz, hs, hb⟩ := hzz
  have hr := run_make (P := Try.prog) W 50 66 i (secV blank64) Try.underlying50 hi hz .i64 .i64 (n : Int) (n : Int) (by omega) (Int.le_refl _) (by rw [hb]; omega) (by omega)
  rw [Int.toNat_natCast, hs] at hr
  rw [hr]
  have : (secV blank64).cells = (secC blank64).toArray := rfl
  rw [this, made_blank]
/-- A new device: what stands behind the call. -/
def NewPost (w : World) (n : Nat) (e : Ending) (w' : World) : Prop :=
  e = .returned (.pointer (some ⟨w.heap.size + 1 + 1 + 1, 0, none⟩)) ∧ DevAt w' (w.heap.size + 1 + 1 + 1) w.heap.size (w.heap.size + 1) (w.heap.size + 1 + 1) n 0 false 0 false 0 (List.replicate n blank64) (fun _ => none) ∧ Below w.heap.size w w'
theorem new_cell {W : World} {cs : Array Value} {T : TypeId} {g i : Nat} {v : Value} (hg : g = W.heap.size) (hv : cs[i]? = some v) : (W.alloc (.cells cs T)).cell? ⟨g, i, none⟩ = some v := by
  subst hg
  rw [cell_of_row _ W.heap.size i cs T (0, 0) (hp_new rfl)]; exact hv
theorem keep_alloc {W : World} {o : Obj} {p : Addr} {v : Value} (hc : W.cell? p = some v) : (W.alloc o).cell? p = some v :=
  (World.cell?_of_block (by
    have hlt := block_lt hc
    show (W.heap.push o)[p.block]? = W.heap[p.block]?
    rw [Array.getElem?_push, if_neg (by omega)])).trans hc
set_option maxHeartbeats 1000000 in
theorem new_any (n : Nat) (w : World) (h1 : 1 ≤ n) (h2 : n ≤ 4096) : Calls Try.prog 6 #[.pointer none, .int .i64 (n : Int)] w (NewPost w n) := by
  have hmk := make_las n h2
  have hmm := @run_makeMap Try.prog
  have b1 : (1 : Int) ≤ (n : Int) := by omega
  have b2 : (n : Int) ≤ 4096 := by omega
  generalize hC : (lasC (List.replicate n blank64)).toArray = C at hmk
  have HC := Lib.hid hC; clear hC
  go_enter Try.func6, Try.ntmps6
  go_wp2
  go_ret
  rw [← HC.out]
  refine ⟨rfl, ⟨?_, ?_, ?_, ?_, ?_, ?_, ?_, ?_, ?_, ?_, ?_, ?_, ?_, ?_, ?_, ?_, ?_, ?_⟩, ?_⟩
  · exact new_cell (by simp only [World.size_alloc]) rfl
  · exact new_cell (by simp only [World.size_alloc]) rfl
  · exact new_cell (by simp only [World.size_alloc]) rfl
  · exact keep_alloc (keep_alloc (keep_alloc (new_cell rfl rfl)))
  · exact keep_alloc (keep_alloc (keep_alloc (new_cell rfl rfl)))
  · exact keep_alloc (keep_alloc (keep_alloc (new_cell rfl rfl)))
  · exact keep_alloc (keep_alloc (keep_alloc (new_cell rfl rfl)))
  · intro i
    rw [World.frozen?_alloc_past _ _ _ (by simp only [World.size_alloc]; omega), World.frozen?_alloc_past _ _ _ (by simp only [World.size_alloc]; omega), World.frozen?_alloc_past _ _ _ (by simp only [World.size_alloc]; omega)]
    exact World.frozen?_alloc_at _ _ _ _ rfl
  · exact hp_old (hp_old (hp_new (by simp only [World.size_alloc])))
  · exact List.length_replicate
  · intro l hl
    rw [List.eq_of_mem_replicate hl]; exact blank64_len
  · have h := (LooseAt.made ((w.alloc (.cells #[.bool false, .int .i64 0, .bool false, .int .i64 0] 27)).alloc (.cells (lasC (List.replicate n blank64)).toArray 66)))
    simp only [World.size_alloc] at h
    exact h.below ((Below.refl _ _).alloc (Nat.le_refl _) _)
  all_goals first
    | (exact fun e => by omega)
    | exact ((((Below.refl _ w).alloc (Nat.le_refl _) _).alloc (by simp only [World.size_alloc]; omega) _).alloc (by simp only [World.size_alloc]; omega) _).alloc (by simp only [World.size_alloc]; omega) _
end Go.Proofs.Ytobgopiadfinbaa
