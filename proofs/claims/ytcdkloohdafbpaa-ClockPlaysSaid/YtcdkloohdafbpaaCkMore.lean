/-
  THE CONTRACTS OF a clock's Drop, New.
-/
import Derived.Test.YtcdkloohdafbpaaCkSet
import Derived.Laws.MakeOwn
namespace Go.Proofs.Ytcdkloohdafbpaa
open Go.RowKit
def dropL (f : Int → Int) (l : List Int) : Int → Int := l.foldl (fun f t => updI f t 0) f
section
variable {W : World} {C S P T n k : Nat} {ss : List Int} {fp ft : Int → Int} {top : Int}
set_option maxHeartbeats 2000000 in
theorem drop_any (h : ClockAt W C S P T n k ss fp ft top) (a : Option Addr) (l : List Int) (cap : Nat) (hl : l.length + k ≤ maxLen) (hw : Ints64 l) (ha : ∀ W', Fr C S P T W W' → IntsAt W' a l) :
    Calls Try.prog 21 #[.pointer (some ⟨C, 0, none⟩), .slice a l.length cap] W fun e w' => e = .returned (.tuple #[]) ∧ ClockAt w' C S P T n (k + l.length) ss fp (dropL ft l) top ∧ Fr C S P T W w' := by
  have KM := Lib.hid (made_any h)
  have HL : Hid (l.length + k ≤ maxLen) := hl
  unfold maxLen at hl
  have HA := Lib.hid ha; clear ha
  have HW := Lib.hid hw; clear hw
  have CL : Hid (ClockAt W C S P T n (k + 0) ss fp (dropL ft (l.take 0)) top) := by rw [List.take_zero]; exact h
  have FR : Hid (Fr C S P T W W) := Fr.refl W
  clear h
  go_enter Try.func21, Try.ntmps21
  go_wp2_with fail
  refine KM.out.mono ?_
  rintro e w1 ⟨rfl, rfl⟩
  go_wp2
  go_loopw [11] (fun i wr => ∃ j : Nat, j ≤ l.length ∧ i = .int .i64 j ∧ Hid (ClockAt wr C S P T n (k + j) ss fp (dropL ft (l.take j)) top) ∧ Hid (Fr C S P T W wr)) (fun i _ => l.length - (intOf i).toNat)
  case atStart => exact ⟨0, Nat.zero_le _, rfl, CL, FR⟩
  case round =>
    obtain ⟨j, hj, rfl, cl, fr⟩ := hrel
    clear CL FR
    by_cases hlt : j < l.length
    · obtain ⟨b, off, rfl, hc⟩ := (HA.out _ fr.out).cell hlt
      have c3 := cl.out.c3
      have KS := Lib.hid (setTxns_any cl.out (l.getD j 0) 0 (HW.out _ (by rw [List.getD_eq_getElem?_getD, List.getElem?_eq_getElem hlt]; exact List.getElem_mem _)) ⟨by omega, by omega⟩ (by have := HL.out; omega))
      have hd : dropL ft (l.take (j + 1)) = updI (dropL ft (l.take j)) (l.getD j 0) 0 := by rw [take_one l j hlt]; unfold dropL; rw [List.foldl_append]; rfl
      have HD := Lib.hid hd; clear hd
      generalize l.getD j 0 = z at hc KS HD
      go_wp2_with fail
      refine KS.out.mono ?_
      rintro e w2 ⟨rfl, h6, h7⟩
      have cl1 : Hid (ClockAt w2 C S P T n (k + (j + 1)) ss fp (dropL ft (l.take (j + 1))) top) := by rw [HD.out]; exact h6
      have fr1 := Lib.hid (fr.out.trans h7); clear h6 h7
      go_wp2
      go_round
      case rel => exact ⟨j + 1, by omega, by go_num, cl1, fr1⟩
      case measure => simp [intOf]; omega
    · have hje : j = l.length := by omega
      subst hje
      rw [List.take_length] at cl
      go_wp2
      go_end0
      exact ⟨rfl, cl.out, fr.out⟩
end
theorem new_no (n : Int) (W : World) (h : ¬ (1 ≤ n ∧ n ≤ 8)) : Calls Try.prog 9 #[.int .i64 n] W fun e w' => e = .returned (.pointer none) ∧ W = w' := by
  by_cases h1 : n < 1
  · go_enter Try.func9, Try.ntmps9
    go_wp2
    go_ret
    exact ⟨rfl, rfl⟩
  · have h8 : 8 < n := by omega
    go_enter Try.func9, Try.ntmps9
    go_wp2
    go_ret
    exact ⟨rfl, rfl⟩
theorem infoI : (Try.prog.info? 3).map (fun i => (i.zero, i.size, i.bytes)) = some (some (.int .i64 0), 1, 8) := by kernel_rfl
theorem made_zeros (n : Nat) : madeCells (Value.int .i64 0).cells (n * 1) = (List.replicate n (Value.int .i64 0)).toArray := by
  apply Array.toList_inj.1
  unfold madeCells
  rw [Array.toList_map, Array.toList_range]
  show List.map _ (List.range (n * 1)) = List.replicate n (Value.int .i64 0)
  rw [List.eq_replicate_iff]
  refine ⟨by simp, fun b hb => ?_⟩
  obtain ⟨i, _, rfl⟩ := List.mem_map.1 hb
  simp [Value.cells, Nat.mod_one]
theorem make_ints (n : Nat) (hn : n ≤ 8) (W : World) :
    (Instr.makeSlice 28 (.int .i64 (n : Int)) (.int .i64 (n : Int))).run Try.prog W = .ok (.slice (some ⟨W.heap.size, 0, none⟩) n n) (W.alloc (.cells (List.replicate n (Value.int .i64 0)).toArray 3)) := by
  obtain ⟨i, hi, hzz⟩ := Option.map_eq_some_iff.1 infoI
  simp only [Prod.mk.injEq] at hzz
  obtain ⟨hz, hs, hb⟩ := hzz
  have hr := run_make (P := Try.prog) W 28 3 i (.int .i64 0) Try.underlying28 hi hz .i64 .i64 (n : Int) (n : Int) (by omega) (Int.le_refl _) (by rw [hb]; omega) (by omega)
  rw [Int.toNat_natCast, hs, made_zeros n] at hr
  exact hr
theorem new_cell {W : World} {cs : Array Value} {T : TypeId} {g i : Nat} {v : Value} (hg : g = W.heap.size) (hv : cs[i]? = some v) : (W.alloc (.cells cs T)).cell? ⟨g, i, none⟩ = some v := by
  rw [World.cell?_alloc_at (hn := hg)]; exact hv
theorem keep_alloc {W : World} {o : Obj} {p : Addr} {v : Value} (hc : W.cell? p = some v) : (W.alloc o).cell? p = some v := by
  rw [World.cell?_alloc_lt W o p (block_lt' hc)]; exact hc
theorem new_yes (n : Nat) (W : World) (n1 : 1 ≤ n) (n8 : n ≤ 8) : Calls Try.prog 9 #[.int .i64 n] W fun e w' => ∃ C S P T, e = .returned (.pointer (some ⟨C, 0, none⟩)) ∧ ClockAt w' C S P T n 0 (List.replicate n 0) (fun _ => 0) (fun _ => 0) 0 ∧ Below W.heap.size W w' ∧ W.heap.size ≤ C ∧ W.heap.size ≤ S ∧ W.heap.size ≤ P ∧ W.heap.size ≤ T := by
  have hmm := @run_makeMap Try.prog
  have hmk := make_ints n n8
  have h1 : (1 : Int) ≤ n := by omega
  have h8 : (n : Int) ≤ 8 := by omega
  have HC : Hid (∀ i, i < n → ((List.replicate n (Value.int .i64 0)).toArray)[i]? = some (.int .i64 0)) := fun i hi => by simp [hi]
  generalize (List.replicate n (Value.int .i64 0)).toArray = cs at hmk HC
  go_enter Try.func9, Try.ntmps9
  go_wp2
  go_ret
  have hb : Below W.heap.size W ((((W.alloc (Obj.cells cs 3)).alloc (Obj.map #[] 0)).alloc (Obj.map #[] 0)).alloc (Obj.cells #[.int .i64 0, .slice (some ⟨W.heap.size, 0, none⟩) n n, .map (some (W.heap.size + 1)), .map (some (W.heap.size + 1 + 1))] 53)) :=
    ((((Below.refl _ W).alloc (Nat.le_refl _) _).alloc (by simp only [World.size_alloc]; omega) _).alloc (by simp only [World.size_alloc]; omega) _).alloc (by simp only [World.size_alloc]; omega) _
  have hp := (TimesAt.made (W.alloc (Obj.cells cs 3)))
  have ht := (TimesAt.made ((W.alloc (Obj.cells cs 3)).alloc (Obj.map #[] 0)))
  simp only [World.size_alloc] at hp ht
  have alk : ∀ (W1 : World) (o : Obj) (k : Nat), k < W1.heap.size → (W1.alloc o).heap[k]? = W1.heap[k]? := fun W1 o k hk => heap_alloc_old W1 o hk
  refine ⟨W.heap.size + 1 + 1 + 1, W.heap.size, W.heap.size + 1, W.heap.size + 1 + 1, rfl, ⟨?_, ?_, ?_, ?_, ?_, ?_, ?_, ?_, ⟨n1, n8⟩, ?_, ?_, ?_, ?_, ?_, ?_, ?_, ?_, ?_, ?_, ?_, ?_⟩, hb, ?_, ?_, ?_, ?_⟩
  · exact new_cell (by simp only [World.size_alloc]) rfl
  · exact new_cell (by simp only [World.size_alloc]) rfl
  · exact new_cell (by simp only [World.size_alloc]) rfl
  · exact new_cell (by simp only [World.size_alloc]) rfl
  · intro i
    exact World.frozen?_alloc_at _ _ _ _ (by simp only [World.size_alloc])
  · intro i hi
    rw [show (List.replicate n (0 : Int)).getD i 0 = 0 by simp [List.getD_eq_getElem?_getD, hi]]
    exact keep_alloc (keep_alloc (keep_alloc (new_cell rfl (HC.out i hi))))
  · intro i
    rw [World.frozen?_alloc_past _ _ _ (by simp only [World.size_alloc]; omega), frozen?_alloc_map, frozen?_alloc_map]
    exact World.frozen?_alloc_at _ _ _ _ rfl
  · exact List.length_replicate
  · exact (hp.of_block (alk _ _ _ (by simp only [World.size_alloc]; omega))).of_block (alk _ _ _ (by simp only [World.size_alloc]; omega))
  · exact ht.of_block (alk _ _ _ (by simp only [World.size_alloc]; omega))
  · exact ⟨by omega, by omega⟩
  · intro i
    rw [show (List.replicate n (0 : Int)).getD i 0 = 0 by
      rw [List.getD_eq_getElem?_getD, List.getElem?_replicate]; split <;> rfl]
    exact ⟨by omega, by omega⟩
  · exact fun _ => ⟨by omega, by omega⟩
  · exact fun _ => ⟨by omega, by omega⟩
  all_goals omega
end Go.Proofs.Ytcdkloohdafbpaa
