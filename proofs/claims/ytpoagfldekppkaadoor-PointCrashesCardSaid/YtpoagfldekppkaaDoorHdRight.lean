/-
  THE CONTRACTS OF head.within, head.right.
-/
import Derived.Test.YtpoagfldekppkaaDoorNPutD
namespace Go.Proofs.YtpoagfldekppkaaDoor
open Go.RowKit
theorem blk_of {w : World} {p : Addr} {v : Value} (h : w.cell? p = some v) : p.block < w.heap.size := by
  rcases Nat.lt_or_ge p.block w.heap.size with h1 | h1
  · exact h1
  · simp [World.cell?, Array.getElem?_eq_none h1] at h
theorem keep_h {w w' : World} {p : Addr} {v : Value} (h : Below w.heap.size w w') (hc : w.cell? p = some v) : w'.cell? p = some v := (h.cell (blk_of hc)).trans hc
theorem hp_newh {W : World} {o : Obj} {n : Nat} (h : n = W.heap.size) : (W.alloc o).heap[n]? = some o := by
  subst h
  show (W.heap.push o)[W.heap.size]? = _
  rw [Array.getElem?_push, if_pos rfl]
theorem new_h {W : World} {cs : Array Value} {T : TypeId} {g i : Nat} {v : Value} (hg : g = W.heap.size) (hv : cs[i]? = some v) : (W.alloc (.cells cs T)).cell? ⟨g, i, none⟩ = some v := by
  have h := hp_newh (W := W) (o := .cells cs T) hg
  simp only [World.cell?, h]
  simpa using hv
theorem keepa_h {W : World} {o : Obj} {p : Addr} {v : Value} (hc : W.cell? p = some v) : (W.alloc o).cell? p = some v := keep_h ((Below.refl _ _).alloc (Nat.le_refl _) o) hc
theorem bwa_h {w X : World} {o : Obj} (h : Below w.heap.size w X) : Below w.heap.size w (X.alloc o) := h.alloc h.size o
theorem bwc_h {w X Y : World} (hb : Below X.heap.size X Y) (h : Below w.heap.size w X) : Below w.heap.size w Y := h.trans (hb.mono h.size)
/-- All numbers from 0 to the greatest one. -/
def inHd (g : Int) (l : List Int) : Bool := l.all fun x => decide (0 ≤ x) && decide (x ≤ g)
theorem inHd_take (g : Int) (l : List Int) (k : Nat) (h : k < l.length) : inHd g (l.take (k + 1)) = (inHd g (l.take k) && (decide (0 ≤ l.getD k 0) && decide (l.getD k 0 ≤ g))) := by
  unfold inHd
  rw [List.take_succ_eq_append_getElem h, List.all_append, List.getD_eq_getElem?_getD, List.getElem?_eq_getElem h]
  simp
theorem inHd_false {g : Int} {l : List Int} {k : Nat} (h : k < l.length) (hf : (decide (0 ≤ l.getD k 0) && decide (l.getD k 0 ≤ g)) = false) : inHd g l = false := by
  unfold inHd
  rw [List.all_eq_false]
  refine ⟨l.getD k 0, ?_, by simpa using hf⟩
  rw [List.getD_eq_getElem?_getD, List.getElem?_eq_getElem h]
  exact List.getElem_mem h
set_option maxHeartbeats 1000000 in
theorem within_hd (g : Int) (b off : Nat) (l : List Int) (cap : Nat) (w : World) (hl : l.length ≤ 10) (hc : ∀ i, i < l.length → w.cell? ⟨b, off + i, none⟩ = some (.int .i64 (l.getD i 0))) :
    Calls Tryd.prog 35 #[.int .i64 g, .slice (some ⟨b, off, none⟩) l.length cap] w fun e w' => e = .returned (.bool (inHd g l)) ∧ w = w' := by
  have HC := Lib.hid hc
  clear hc
  have hl10 : (l.length : Int) ≤ 10 := by omega
  go_enter Tryd.func35, Tryd.ntmps35
  go_wp2
  go_loop [9] (fun i => ∃ k : Nat, k ≤ l.length ∧ i = .int .i64 k ∧ Hid (inHd g (l.take k) = true)) (fun i => l.length - (intOf i).toNat)
  case atStart => exact ⟨0, Nat.zero_le _, rfl, rfl⟩
  case round =>
    obtain ⟨k, hk, rfl, HT⟩ := hrel
    by_cases hlt : k < l.length
    · have hk0 : (0 : Int) ≤ (k : Int) := by omega
      have hki : (k : Int) < (l.length : Int) := by omega
      have c1 := HC.out k hlt
      have HS := Lib.hid (inHd_take g l k hlt)
      have HF := Lib.hid (fun h => inHd_false (g := g) hlt h)
      obtain ⟨x, hx⟩ : ∃ x, x = l.getD k 0 := ⟨_, rfl⟩
      rw [← hx] at c1 HS HF
      clear hx
      by_cases h0 : 0 ≤ x
      · by_cases h1 : x ≤ g
        · have HT2 : Hid (inHd g (l.take (k + 1)) = true) := by rw [Hid, HS.out, HT.out, decide_eq_true h0, decide_eq_true h1]; rfl
          go_wp2
          go_round
          case rel => exact ⟨k + 1, hlt, by go_num, HT2⟩
          case measure => simp [intOf]; omega
        · have h1' : g < x := by omega
          have HE := Lib.hid (HF.out (by rw [decide_eq_false h1, Bool.and_false]))
          clear h1
          go_wp2
          go_ret
          exact ⟨by rw [HE.out]; rfl, rfl⟩
      · have h0' : x < 0 := by omega
        have HE := Lib.hid (HF.out (by rw [decide_eq_false h0, Bool.false_and]))
        clear h0
        go_wp2
        go_ret
        exact ⟨by rw [HE.out]; rfl, rfl⟩
    · have hki : (l.length : Int) ≤ (k : Int) := by omega
      have hkl : k = l.length := by omega
      have HE : Hid (inHd g l = true) := by have := HT.out; rwa [hkl, List.take_length] at this
      clear hkl
      go_wp2
      go_ret
      exact ⟨by rw [HE.out]; rfl, rfl⟩
/-- Whether a head may be. -/
def hdOk (s e c st m : Int) : Bool := inHd 2147483647 [s, e] && inHd 4611686018427387903 [c, st, m]
set_option maxRecDepth 100000 in
theorem hright_any (s e c st m : Int) (w : World) :
    Calls Tryd.prog 27 #[.agg #[.int .i64 s, .int .i64 e, .int .i64 c, .int .i64 st, .int .i64 m]] w fun x w' => x = .returned (.bool (hdOk s e c st m)) ∧ Below w.heap.size w w' := by
  have HK : Hid (hdOk s e c st m = (inHd 2147483647 [s, e] && inHd 4611686018427387903 [c, st, m])) := rfl
  have K1 := Lib.hid (fun W b (h : ∀ i, i < [s, e].length → W.cell? ⟨b, 0 + i, none⟩ = some (.int .i64 ([s, e].getD i 0))) => within_hd 2147483647 b 0 [s, e] 2 W (by simp) h)
  have K2 := Lib.hid (fun W b (h : ∀ i, i < [c, st, m].length → W.cell? ⟨b, 0 + i, none⟩ = some (.int .i64 ([c, st, m].getD i 0))) => within_hd 4611686018427387903 b 0 [c, st, m] 3 W (by simp) h)
  cases q : inHd 2147483647 [s, e] with
  | true =>
    rw [q] at HK K1
    clear q
    go_enter Tryd.func27, Tryd.ntmps27
    go_wp2_with fail
    refine (K1.out _ _ (fun i hi => by
      match i, hi with
      | 0, _ => exact new_h (by rw [World.size_alloc]) rfl
      | 1, _ => exact new_h (by rw [World.size_alloc]) rfl)).mono ?_
    rintro x w' ⟨rfl, rfl⟩
    go_wp2_with fail
    refine (K2.out _ _ (fun i hi => by
      match i, hi with
      | 0, _ => exact new_h (by rw [World.size_alloc, World.size_alloc]) rfl
      | 1, _ => exact new_h (by rw [World.size_alloc, World.size_alloc]) rfl
      | 2, _ => exact new_h (by rw [World.size_alloc, World.size_alloc]) rfl)).mono ?_
    rintro x w' ⟨rfl, rfl⟩
    go_wp2
    go_ret
    exact ⟨by rw [HK.out]; rfl, bwa_h (bwa_h (bwa_h (Below.refl _ _)))⟩
  | false =>
    rw [q] at HK K1
    clear q
    go_enter Tryd.func27, Tryd.ntmps27
    go_wp2_with fail
    refine (K1.out _ _ (fun i hi => by
      match i, hi with
      | 0, _ => exact new_h (by rw [World.size_alloc]) rfl
      | 1, _ => exact new_h (by rw [World.size_alloc]) rfl)).mono ?_
    rintro x w' ⟨rfl, rfl⟩
    go_wp2
    go_ret
    exact ⟨by rw [HK.out]; rfl, bwa_h (bwa_h (Below.refl _ _))⟩
end Go.Proofs.YtpoagfldekppkaaDoor
