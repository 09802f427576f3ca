/-
  THE CONTRACTS OF a device's On, Lasts and Read, where its power is on.
-/
import Derived.Test.YtobgopiadfinbaaDvWrite
namespace Go.Proofs.Ytobgopiadfinbaa
open Go.RowKit

def txt (l : List UInt8) : ByteArray := ⟨l.toArray⟩
/-- A sector as a text. -/
theorem conv_sec {W : World} {b o : Nat} {l : List UInt8} (h : W.rangeAt b o (secC l)) (hl : l.length = 64) :
    (convert 70 9 (.slice (some ⟨b, o, none⟩) 64 64)).run Try.prog W = .ok (.string (txt l)) W := by
  have hr := run_convert_bytes_back W 70 9 5 ⟨b, o, none⟩ 64 l Try.underlying70 Try.underlying5 Try.underlying9 (fun j hj => by
    rw [Addr.add_mid]
    exact h j _ (by unfold secC Lib.byteCells; rw [List.getElem?_map, List.getElem?_eq_getElem hj]; rfl))
  rw [hl] at hr
  exact hr
theorem row_range {W : World} {b : Nat} {l : List UInt8} {T : TypeId} (h : W.heap[b]? = some (.cells (secC l).toArray T (0, 0))) : W.rangeAt b 0 (secC l) := fun j v hv => by
  rw [Nat.zero_add, cell_of_row W b j _ _ _ h]; simpa using hv
set_option maxRecDepth 100000 in
theorem slice_sec (W : World) (b o : Nat) : (Instr.sliceAt 66 (.pointer (some ⟨b, o, none⟩)) none none none).run Try.prog W = .ok (.slice (some ⟨b, o, none⟩) 64 64) W := by
  have hA : Try.prog.arrayLen 66 = 64 := by kernel_rfl
  have hsl := run_sliceAt_array_all (P := Try.prog) W 66 ⟨b, o, none⟩ (by kernel_rfl)
  rw [hA] at hsl
  have he : (sizeOf (Try.prog.elem 66)).run Try.prog W = .ok 1 W := Try.sizeOf5 W
  rw [he] at hsl
  simp only [Result.andThen, slicedAt] at hsl
  rw [hsl, if_neg (by omega), Addr.add_mid]
  simp
theorem las_range {W : World} {L : Nat} {T : TypeId} : ∀ {las pre : List (List UInt8)} {j : Nat}, (∀ x ∈ pre ++ las, x.length = 64) → W.heap[L]? = some (.cells (lasC (pre ++ las)).toArray T (0, 0)) → j < las.length →
    W.rangeAt L ((pre.length + j) * 64) (secC (las.getD j blank64)) := by
  intro las pre j h64 hh hj k v hv
  have hsplit : pre ++ las = (pre ++ las.take j) ++ (las.getD j blank64 :: las.drop (j + 1)) := by
    rw [List.append_assoc]
    congr 1
    rw [List.getD_eq_getElem?_getD, List.getElem?_eq_getElem hj]
    simp
  have hlen : (lasC (pre ++ las.take j)).length = (pre.length + j) * 64 := by
    rw [lasC_len (fun x hx => h64 x (by
      rcases List.mem_append.1 hx with h | h
      · exact List.mem_append_left _ h
      · exact List.mem_append_right _ (List.mem_of_mem_take h))), List.length_append, List.length_take]
    rw [Nat.min_eq_left (by omega)]; omega
  rw [cell_of_row W L _ _ _ _ hh, List.getElem?_toArray, hsplit]
  unfold lasC at hlen ⊢
  rw [List.flatMap_append, List.getElem?_append_right (by omega), hlen, Nat.add_sub_cancel_left, List.flatMap_cons]
  have hk : k < (secC (las.getD j blank64)).length := (List.getElem?_eq_some_iff.1 hv).1
  rw [List.getElem?_append_left hk]; exact hv
section
variable {W : World} {D P L M n k : Nat} {off : Bool} {uses : Int} {armed : Bool} {left : Int} {las : List (List UInt8)} {f : Int → Option (List UInt8)}
theorem DevAt.sec (h : DevAt W D P L M n k off uses armed left las f) (j : Nat) (hj : j < n) : W.rangeAt L (j * 64) (secC (las.getD j blank64)) := by
  have := las_range (las := las) (pre := []) (j := j) h.l64 h.lb (by rw [h.ll]; exact hj)
  simpa using this
theorem DevAt.len64 (h : DevAt W D P L M n k off uses armed left las f) (j : Nat) : (las.getD j blank64).length = 64 := by
  rw [List.getD_eq_getElem?_getD]
  cases hx : las[j]? with
  | none => exact blank64_len
  | some l => exact h.l64 l (List.mem_of_getElem? hx)
theorem devOn (h : DevAt W D P L M n k off uses armed left las f) :
    Calls Try.prog 25 #[.pointer (some ⟨D, 0, none⟩)] W fun e w' => e = .returned (.bool (!off)) ∧ W = w' := by
  have KO := Lib.hid (powOn_any P off W h.p0)
  have hd := h.d0
  go_enter Try.func25, Try.ntmps25
  go_wp2_with fail
  refine KO.out.mono ?_
  rintro x w1 ⟨rfl, rfl⟩
  go_wp2
  go_ret
  exact ⟨rfl, rfl⟩
set_option maxHeartbeats 1000000 in
theorem lasts_any (h : DevAt W D P L M n k off uses armed left las f) (j : Nat) (hj : j < n) :
    Calls Try.prog 29 #[.pointer (some ⟨D, 0, none⟩), .int .i64 (j : Int)] W fun e w' => e = .returned (.string (txt (las.getD j blank64))) ∧ W = w' := by
  have KH := Lib.hid (has_any h (j : Int))
  have hH : hasB n (j : Int) = true := by unfold hasB; rw [decide_eq_true (by omega), decide_eq_true (by omega)]; rfl
  rw [hH] at KH
  have hd := h.d1
  have ksl := slice_sec W L (j * 64)
  have kc := conv_sec (h.sec j hj) (h.len64 j)
  have hj0 : (0 : Int) ≤ (j : Int) := by omega
  have hj1 : (j : Int) < (n : Int) := by omega
  generalize txt (las.getD j blank64) = T at kc ⊢
  go_enter Try.func29, Try.ntmps29
  go_wp2_with fail
  refine KH.out.mono ?_
  rintro x w1 ⟨rfl, rfl⟩
  go_wp2
  go_ret
  exact ⟨rfl, rfl⟩
/-- A sector as it is read. -/
def secAt (las : List (List UInt8)) (f : Int → Option (List UInt8)) (j : Nat) : List UInt8 := match f (j : Int) with
  | some l => l
  | none => las.getD j blank64
set_option maxRecDepth 100000 in
set_option maxHeartbeats 2000000 in
theorem read_any (h : DevAt W D P L M n k false uses armed left las f) (j : Nat) (hj : j < n) (hn : n ≤ 4096) (hf : ∀ l, f (j : Int) = some l → l.length = 64) :
    Calls Try.prog 15 #[.pointer (some ⟨D, 0, none⟩), .int .i64 (j : Int)] W fun e w' => e = .returned (.tuple #[.string (txt (secAt las f j)), .int .i64 0]) ∧ Below W.heap.size W w' := by
  have KO := Lib.hid (devOn h)
  have KH := Lib.hid (has_any h (j : Int))
  have hH : hasB n (j : Int) = true := by unfold hasB; rw [decide_eq_true (by omega), decide_eq_true (by omega)]; rfl
  rw [hH] at KH
  have hd := h.d2
  have klk := h.mp.look (j : Int) (WalkArith.wf_i64 (by omega))
  cases hfj : f (j : Int) with
  | some l =>
    have hl := hf l hfj
    have hA : secAt las f j = l := by unfold secAt; rw [hfj]
    rw [hA]
    obtain ⟨C, hC⟩ : ∃ C, C = (secC l).toArray := ⟨_, rfl⟩
    have hlv : lookV f (j : Int) = .tuple #[.agg C, .bool true] := by unfold lookV; rw [hfj, hC]; rfl
    rw [hlv] at klk
    have z3 : (Try.prog.info? 66).map (·.size) = some C.size := by
      rw [hC, List.size_toArray, secC_len, hl]; exact (zero_of_info infoK).2
    have z1 : zeroC.size = C.size := by
      have e : C.size = 64 := by rw [hC, List.size_toArray, secC_len, hl]
      rw [e]; rfl
    have z2 : C.all (·.oneCell') = true := by rw [hC]; exact secV_one _
    have ksl := slice_sec (W.alloc (.cells C 66)) W.heap.size 0
    have kc := conv_sec (W := W.alloc (.cells C 66)) (b := W.heap.size) (o := 0) (l := l) (row_range (T := 66) (by rw [← hC]; exact hp_new rfl)) hl
    generalize txt l = T at kc ⊢
    clear hC hlv hA hfj hf
    go_enter Try.func15, Try.ntmps15
    go_wp2_with fail
    refine KO.out.mono ?_
    rintro x w1 ⟨rfl, rfl⟩
    go_wp2_with fail
    refine KH.out.mono ?_
    rintro x w1 ⟨rfl, rfl⟩
    go_wp2_with (first
      | (refine wpList_store_row rfl 66 _ _ rfl W.heap.size C rfl rfl 66 zeroC (hp_new rfl) z3 z1 z2 ?_; rw [World.setRow_alloc_new])
      | fail)
    go_ret2
    exact ⟨rfl, (Below.refl _ _).alloc (Nat.le_refl _) _⟩
  | none =>
    have hA : secAt las f j = las.getD j blank64 := by unfold secAt; rw [hfj]
    rw [hA]
    obtain ⟨C, hC⟩ : ∃ C, C = (secC blank64).toArray := ⟨_, rfl⟩
    have hlv : lookV f (j : Int) = .tuple #[.agg C, .bool false] := by unfold lookV; rw [hfj, hC]; rfl
    rw [hlv] at klk
    have z3 : (Try.prog.info? 66).map (·.size) = some C.size := by
      rw [hC, List.size_toArray, secC_len, blank64_len]; exact (zero_of_info infoK).2
    have z1 : zeroC.size = C.size := by
      have e : C.size = 64 := by rw [hC, List.size_toArray, secC_len, blank64_len]
      rw [e]; rfl
    have z2 : C.all (·.oneCell') = true := by rw [hC]; exact secV_one _
    have KL := Lib.hid (lasts_any (h.below ((Below.refl _ _).alloc (o := .cells C 66) (Nat.le_refl _))) j hj)
    generalize txt (las.getD j blank64) = T at KL ⊢
    clear hC hlv hA hfj hf
    go_enter Try.func15, Try.ntmps15
    go_wp2_with fail
    refine KO.out.mono ?_
    rintro x w1 ⟨rfl, rfl⟩
    go_wp2_with fail
    refine KH.out.mono ?_
    rintro x w1 ⟨rfl, rfl⟩
    go_wp2_with (first
      | (refine wpList_store_row rfl 66 _ _ rfl W.heap.size C rfl rfl 66 zeroC (hp_new rfl) z3 z1 z2 ?_; rw [World.setRow_alloc_new])
      | fail)
    refine KL.out.mono ?_
    rintro x w1 ⟨rfl, hw1⟩
    go_wp2
    go_ret2
    exact ⟨rfl, by rw [← hw1]; exact (Below.refl _ _).alloc (Nat.le_refl _) _⟩
end
end Go.Proofs.Ytobgopiadfinbaa
