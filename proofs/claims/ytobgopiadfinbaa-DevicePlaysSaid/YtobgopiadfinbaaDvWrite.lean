/-
  THE CONTRACT OF a device's Write, where its power is on and not armed.
-/
import Derived.Test.YtobgopiadfinbaaDvNew
import Derived.Deep.RegionHeld3
import Derived.BigRegion
namespace Go.Proofs.Ytobgopiadfinbaa
open Go.RowKit

theorem wset_below {W : World} {B b i : Nat} {v : Value} (hb : B ≤ b) : Below B W (W.setCell ⟨b, i, none⟩ v) := (Below.refl _ _).setCell hb v
def WritePost (W : World) (D P L M n k : Nat) (uses left : Int) (las : List (List UInt8)) (f : Int → Option (List UInt8)) (i : Int) (l : List UInt8) (B : Nat) (e : Ending) (w' : World) : Prop :=
  e = .returned (.int .i64 0) ∧ DevAt w' D P L M n (k + 1) false (uses + 1) false left las (upd f i (some (pad l))) ∧ Below B W w'
set_option linter.unusedSimpArgs false in
set_option maxRecDepth 100000 in
set_option maxHeartbeats 2000000 in
theorem write_ok {W : World} {D P L M n k B : Nat} {uses left : Int} {las : List (List UInt8)} {f : Int → Option (List UInt8)} (h : DevAt W D P L M n k false uses false left las f) (hu : 0 ≤ uses ∧ uses ≤ 1000000000) (hk : k ≤ 1000000)
    (hB : B ≤ P ∧ B ≤ M) (hBW : B ≤ W.heap.size) (i : Int) (hi : 0 ≤ i ∧ i < (n : Int)) (hn : n ≤ 4096) (sa : Option Addr) (ss : List ByteArray) (c : Nat) (hs : ss.length ≤ 1000000) (hsa : StrsAt W sa ss) (hz : ∀ i, (ss.getD i ByteArray.empty).size ≤ 140737488355328) (hfit : (joined ss).length ≤ 64) (hsP : ∀ b off, sa = some ⟨b, off, none⟩ → b ≠ P) :
    Calls Try.prog 13 #[.pointer (some ⟨D, 0, none⟩), .int .i64 i, .slice sa ss.length c] W (WritePost W D P L M n k uses left las f i (joined ss) B) := by
  have KU := Lib.hid (use_on h hu)
  have hd := h.d0
  have h' := (h.pow).2.1 (uses + 1)
  have hsa' : StrsAt (W.setCell ⟨P, 1, none⟩ (.int .i64 (uses + 1))) sa ss := by
    rcases hsa with e | ⟨b, off, e, hc⟩
    · exact .inl e
    · refine .inr ⟨b, off, e, fun i hi => ?_⟩
      rw [World.cell?_setCell_other _ _ _ _ (fun x => by injection x with x1 _; exact hsP b off e x1.symm)]
      exact hc i hi
  obtain ⟨W1, hW1⟩ : ∃ W1, W1 = W.setCell ⟨P, 1, none⟩ (.int .i64 (uses + 1)) := ⟨_, rfl⟩
  rw [← hW1] at h' hsa' KU
  have hb1 : Below B W W1 := by rw [hW1]; exact wset_below hB.1
  clear hW1
  have KL := Lib.hid (lay_any sa ss c W1 hs hsa' hz)
  obtain ⟨C, hC⟩ : ∃ C, C = (secC (pad (joined ss))).toArray := ⟨_, rfl⟩
  have hlv : layV ss = .tuple #[.agg C, .bool true] := by unfold layV; rw [if_pos hfit, hC]; rfl
  rw [hlv] at KL
  have z3 : (Try.prog.info? 66).map (·.size) = some C.size := by rw [hC]; exact sec_info hfit
  have z1 : zeroC.size = C.size := by
    have e : C.size = 64 := by rw [hC, List.size_toArray, secC_len, pad_len hfit]
    rw [e]; rfl
  have z2 : C.all (·.oneCell') = true := by rw [hC]; exact secV_one _
  have HC := Lib.hid hC
  clear hC hlv
  go_enter Try.func13, Try.ntmps13
  go_wp2_with fail
  refine KU.out.mono ?_
  rintro x w1 ⟨rfl, rfl⟩
  go_wp2_with fail
  refine KL.out.mono ?_
  rintro x w2 ⟨rfl, hb2⟩
  have h2 := h'.below hb2
  have hb3 : Below B W w2 := hb1.trans (hb2.mono (Nat.le_trans hBW (by rename_i hs1; exact hb1.size)))
  clear hb2 h' hsa' KU KL
  go_wp2_with (first
    | (refine wpList_store_row rfl 66 _ _ rfl w2.heap.size C rfl rfl 66 zeroC (hp_new rfl) z3 z1 z2 ?_; rw [World.setRow_alloc_new])
    | fail)
  have h3 := h2.below ((Below.refl _ _).alloc (o := .cells C 66) (Nat.le_refl _))
  have hH : hasB n i = true := by unfold hasB; rw [decide_eq_true hi.1, decide_eq_true hi.2]; rfl
  have KH := Lib.hid (has_any h3 i)
  rw [hH] at KH
  refine KH.out.mono ?_
  rintro x W3 ⟨rfl, hW3⟩
  rw [hW3] at h3
  have hrow : W3.heap[w2.heap.size]? = some (.cells C 66 (0, 0)) := by rw [← hW3]; exact hp_new rfl
  have hb4 : Below B W W3 := by rw [← hW3]; exact hb3.alloc (Nat.le_trans hBW hb3.size) _
  have h5 := h3.below (W' := W3.drew) ((Below.refl _ _).drew)
  have hsc : C.size = 64 := by rw [HC.out, List.size_toArray, secC_len, pad_len hfit]
  have kld : (Instr.loadAt 66 (.pointer (some ⟨w2.heap.size, 0, none⟩))).run Try.prog W3.drew = .ok (.agg C) W3.drew := by
    simp only [Instr.loadAt, Instr.sureAddr, Sem.run_bind, Sem.run_pure, Result.andThen_ok]
    exact run_loadVar_row _ w2.heap.size 66 66 C (0, 0) _ hrow Try.underlying66 rfl z3
  obtain ⟨W4, kst, hm4, hg4⟩ := h5.mp.store i (by have := hi.1; have := hi.2; exact WalkArith.wf_i64 (by omega)) (pad (joined ss)) (pad_len hfit) (by unfold maxLen; omega)
  have h6 := h5.map hg4 hm4
  have hb5 : Below B W W4 := (hb4.drew).grown hg4 (Nat.le_trans hBW hb4.size) (fun k hk => by cases hk; exact hB.2)
  rw [show secV (pad (joined ss)) = .agg C by rw [HC.out]; rfl] at kst
  have hd2 := h5.d2
  have H6 := Lib.hid h6
  have hd4 := h6.d2
  have hrg : W3.drew.rangeAt w2.heap.size 0 C.toList := fun j v hv => by
    rw [Nat.zero_add, cell_of_row W3.drew w2.heap.size j C _ _ hrow]; simpa using hv
  have hMb : M ≠ w2.heap.size := by have := h2.mp; obtain ⟨_, hM, _⟩ := this; have := hM.lt; omega
  have hrg4 : W4.rangeAt w2.heap.size 0 C.toList := fun j v hv => cell_apart hg4 (fun e => hMb e.symm) (hrg j v hv)
  clear h2 h3 hW3 hb3 hb4 h5 hm4 hg4 h6 hb1 z1 z2 HC KH
  go_wp2_with fail
  refine wp_region_held_drew (S := (fun w' => w'.cell? ⟨D, 2, none⟩ = some (.map (some M)) ∧ w'.rangeAt w2.heap.size 0 C.toList)) (by kernel_rfl) ?_ (fun hHeld => ?_)
  · (try dsimp only); exact ⟨(by first | exact hd2 | exact hd4), (by first | exact hrg | exact hrg4)⟩
  refine wpAnyH_take (i := 0) (v := ?_) rfl (by kernel_rfl) (by kernel_rfl) (by kernel_rfl) (fun _ _ _ h => h) (Or.inl ⟨by rfl, ?_⟩) (by assumption) ?_
  rotate_left 1
  · (intro w' hSw; (try dsimp only at hSw); go_simp; try (with_reducible rfl))
  try simp only [Act.put, List.setIfInBounds_toArray, List.set_cons_zero, List.set_cons_succ]
  refine wpAnyH_take (i := 1) (v := ?_) rfl (by kernel_rfl) (by kernel_rfl) (by kernel_rfl) (fun _ _ _ h => h) (Or.inl ⟨by rfl, ?_⟩) (by assumption) ?_
  rotate_left 1
  · (intro w' hSw; (try dsimp only at hSw); go_simp; try (with_reducible rfl))
  try simp only [Act.put, List.setIfInBounds_toArray, List.set_cons_zero, List.set_cons_succ]
  refine wpAnyH_take (i := 2) (v := ?_) rfl (by kernel_rfl) (by kernel_rfl) (by kernel_rfl) (fun _ _ _ h => h) (Or.inl ⟨by rfl, ?_⟩) (by assumption) ?_
  rotate_left 1
  · (intro w' hSw; (try dsimp only at hSw); go_simp; try (with_reducible rfl))
  try simp only [Act.put, List.setIfInBounds_toArray, List.set_cons_zero, List.set_cons_succ]
  refine wpAnyH_take (i := 3) (v := ?_) rfl (by kernel_rfl) (by kernel_rfl) (by kernel_rfl) (fun _ _ _ h => h) (Or.inl ⟨by rfl, ?_⟩) (by assumption) ?_
  rotate_left 1
  · (intro w' hSw; (try dsimp only at hSw); go_simp; try (with_reducible rfl))
  try simp only [Act.put, List.setIfInBounds_toArray, List.set_cons_zero, List.set_cons_succ]
  refine wpAnyH_take (i := 4) (v := ?_) rfl (by kernel_rfl) (by kernel_rfl) (by kernel_rfl) (fun _ _ _ h => h) (Or.inl ⟨by rfl, ?_⟩) (by assumption) ?_
  rotate_left 1
  · (intro w' hSw; (try dsimp only at hSw); go_simp; try (with_reducible rfl))
  try simp only [Act.put, List.setIfInBounds_toArray, List.set_cons_zero, List.set_cons_succ]
  refine wpAnyH_take (i := 5) (v := .agg C.toList.toArray) rfl (by kernel_rfl) (by kernel_rfl) (by kernel_rfl) (fun _ _ _ h => h) (yieldsIf_load_mid (by rfl) 66 _ rfl w2.heap.size 0 rfl C.toList _ (fun w hw => hw.2) Try.underlying66 rfl (by rw [Array.length_toList]; exact z3)) (by assumption) ?_
  simp only [Act.put, List.setIfInBounds_toArray, Array.toArray_toList, List.set_cons_zero, List.set_cons_succ]
  refine wpAnyH_ready (rs := [6]) (by kernel_rfl) (by simp) ?_
  refine AllReadyH.cons rfl (fun K hK => ?_) AllReadyH.nil
  go_simp
  refine hK.out _ _ ?_ (fun hHeld => ?_)
  · (try dsimp only); exact ⟨(by first | exact hd2 | exact hd4), (by first | exact hrg | exact hrg4)⟩
  clear hK K
  refine wpAnyH_done (by kernel_rfl) ?_ _
  go_wp2
  go_ret
  exact ⟨rfl, H6.out, hb5⟩
end Go.Proofs.Ytobgopiadfinbaa
