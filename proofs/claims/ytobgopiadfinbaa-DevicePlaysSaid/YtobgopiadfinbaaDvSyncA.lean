/-
  THE CONTRACT OF a device's Sync, of a power that is on, armed or not, and stays on.
-/
import Derived.Test.YtobgopiadfinbaaDvUseA
import Derived.Test.YtobgopiadfinbaaDvSync
import Derived.Test.YtobgopiadfinbaaDvCrash
import Derived.Maps.RangeWalk
namespace Go.Proofs.Ytobgopiadfinbaa
open Go.RowKit Go.Maps Go.ChangeMaps Go.MapKept Go.WideElems
def SyncYes (W : World) (D P L M n k : Nat) (uses : Int) (armed : Bool) (left : Int) (las : List (List UInt8)) (f : Int → Option (List UInt8)) (e : Ending) (w' : World) : Prop :=
  e = .returned (.int .i64 0) ∧ ∃ las2, DevAt w' D P L M n k false (uses + 1) armed (nl armed left) las2 (fun _ => none) ∧ (∀ j : Nat, j < n → las2.getD j blank64 = secAt las f j) ∧ Fr3 P L M W w'
structure SyY (W wr : World) (D P L M n k R : Nat) (uses : Int) (armed : Bool) (left : Int) (las las' : List (List UInt8)) (f : Int → Option (List UInt8)) (D0 : DataW Unit) (lf : Lit → Bool) (cnt : Nat) : Prop where
  dev : DevAt wr D P L M n k false uses armed left las' f
  rg : wr.ranges Try.prog 3 (secR (H := Unit)) M R k D0 lf cnt
  sy : SyP n las las' f lf
  fr : Fr3 P L M W wr
set_option linter.unusedSimpArgs false in
set_option maxRecDepth 100000 in
set_option maxHeartbeats 4000000 in
theorem sync_yes {W : World} {D P L M n k : Nat} {uses : Int} {armed : Bool} {left : Int} {las : List (List UInt8)} {f : Int → Option (List UInt8)} (h : DevAt W D P L M n k false uses armed left las f) (hu : 0 ≤ uses ∧ uses ≤ 1000000000) (hl : armed = true → 0 < left ∧ left ≤ 9223372036854775807)
    (hf : ∀ z l, f z = some l → 0 ≤ z ∧ z < (n : Int) ∧ l.length = 64) :
    Calls Try.prog 21 #[.pointer (some ⟨D, 0, none⟩)] W (SyncYes W D P L M n k uses armed left las f) := by
  have KU := Lib.hid (use_yes h hu hl)
  have hd := h.d0
  have h' := useW_dev h
  have HF := Lib.hid hf; clear hf
  have HW1 := Lib.hid (useW_fr (P := P) (L := L) (M := M) W uses armed left)
  obtain ⟨W1, hW1⟩ : ∃ W1, W1 = useW P uses armed left W := ⟨_, rfl⟩
  rw [← hW1] at h' KU HW1
  clear hW1 h
  have hd2 := h'.d2
  obtain ⟨D0, hown, hmi⟩ := h'.mp
  have HMI := Lib.hid hmi
  have H1 := Lib.hid h'
  have hLs := blk_lt h'.lb
  have hMs := hown.lt
  clear hmi h'
  go_enter Try.func21, Try.ntmps21
  go_wp2_with fail
  refine KU.out.mono ?_
  rintro x w1 ⟨rfl, rfl⟩
  go_wp2_with (first
    | (at_range; refine wpList_range_own _ rfl _ 51 rfl 3 66 keyLaw Try.underlying51 (secR (H := Unit)) M k D0 rfl hown ?_; intro w0 hrg0 hg0 hs0)
    | fail)
  go_frame
  have S0 : Hid (SyY W w0 D P L M n k w1.heap.size (uses + 1) armed (nl armed left) las las f D0 (Maps.has D0) (Maps.size D0)) :=
    ⟨H1.out.below ⟨hg0.os, hg0.tape, hg0.output, hg0.size, fun j hj => hg0.block j hj (by simp)⟩, hrg0, SyP.start n las HMI.out, HW1.out.trans (Fr3.of_grown hg0 (fun _ e => by cases e))⟩
  have hRL : L ≠ w1.heap.size := by omega
  have hRM : M ≠ w1.heap.size := by omega
  have hRs : w1.heap.size < w0.heap.size := by omega
  have hR := Nat.le_refl w1.heap.size
  clear hg0 hs0 hrg0 H1 hLs hMs hown hd2 hd KU
  have HG0 : Hid (Fr3 P L M W w1 ∧ w1.heap.size ≤ w1.heap.size) := ⟨HW1.out, hR⟩
  have HWS := Lib.hid HW1.out.size
  clear HG0 HW1 hR
  generalize w1.heap.size = R at *
  go_loopw [3] (fun _ wr => ∃ (las' : List (List UInt8)) (lf : Lit → Bool) (cnt : Nat), Hid (SyY W wr D P L M n k R (uses + 1) armed (nl armed left) las las' f D0 lf cnt)) (fun _ wr => wr.rangeLeft M R)
  case atStart => exact ⟨las, _, _, S0⟩
  case round =>
    obtain ⟨las', lf, cnt, st⟩ := hrel
    clear S0 hRs
    have hrg := Lib.hid st.out.rg
    have hle := st.out.rg.left_eq
    go_wp2_with (first
      | (at_next; refine wpList_next_ranges _ rfl _ rfl 3 keyLaw (secR (H := Unit)) (Value.int .i64) secV (fun key kl hkey => by obtain ⟨x, rfl, _⟩ := Maps.keyOf_int_inv Try.underlying3 hkey; exact ⟨x, rfl⟩) (fun v y hv => by obtain ⟨l, _, rfl, _⟩ := secR_inv hv; exact ⟨l, rfl⟩) M R k D0 lf cnt rfl hrg.out ?_ ?_)
      | fail)
    · intro hc0 hl0
      have SD := Lib.hid (st.out.sy.done hl0)
      obtain ⟨w2, hwipe, hm2, hg2⟩ := st.out.dev.mp.wipe 0
      have hdev2 := Lib.hid (st.out.dev.map hg2 hm2)
      have hfr2 := Lib.hid (st.out.fr.trans (Fr3.of_grown hg2 (fun _ e => by injection e with e; exact .inr (.inr e.symm))))
      have e2 := st.out.dev.d2
      clear st hrg hle hm2 hg2
      go_wp2
      go_ret
      exact ⟨rfl, las', hdev2.out, SD.out, hfr2.out⟩
    · intro x c kl y1 y2 w2 cnt1 hkey hlk hv hat hrg1 hlt hg1 hs1 hen
      obtain ⟨rfl, hfx, hc64⟩ := came HMI.out hkey hv hat
      obtain ⟨q0, q1, _⟩ := HF.out x c hfx
      obtain ⟨q, rfl⟩ := Int.eq_ofNat_of_zero_le q0
      have hqn : q < n := by omega
      have SS := Lib.hid (st.out.sy.step hqn st.out.dev.ll hfx)
      obtain ⟨C, hC⟩ : ∃ C, C = (secC c).toArray := ⟨_, rfl⟩
      have hCV : secV c = .agg C := by rw [hC]; rfl
      rw [hCV] at hen
      have hC64 : C.size = 64 := by rw [hC, List.size_toArray, secC_len, hc64]
      have z2 : C.all (·.oneCell') = true := by rw [hC]; exact secV_one _
      have z3 : (Try.prog.info? 66).map (·.size) = some C.size := by rw [hC64]; exact (zero_of_info infoK).2
      have z1 : zeroC.size = C.size := by rw [hC64]; rfl
      -- the iterator was turned: the device is as it was
      have hd1 : DevAt w2 D P L M n k false (uses + 1) armed (nl armed left) las' f := by
        have h0 := st.out.dev
        have hDR : D ≠ R := fun e => by
          have := h0.d0
          have hr := st.out.rg
          obtain ⟨_, _, _, _, _, _, _, _, _, hi, _⟩ := hr
          rw [e] at this
          simp [World.cell?, hi] at this
        have hPR : P ≠ R := fun e => by
          have := h0.p0
          obtain ⟨_, _, _, _, _, _, _, _, _, hi, _⟩ := st.out.rg
          rw [e] at this
          simp [World.cell?, hi] at this
        exact { d0 := cell_apart hg1 hDR h0.d0, d1 := cell_apart hg1 hDR h0.d1, d2 := cell_apart hg1 hDR h0.d2, p0 := cell_apart hg1 hPR h0.p0, p1 := cell_apart hg1 hPR h0.p1, p2 := cell_apart hg1 hPR h0.p2, p3 := cell_apart hg1 hPR h0.p3,
                pf := fun i => (World.frozen?_of_block (hg1.block P (block_lt (p := ⟨P, 0, none⟩) h0.p0) (fun e => hPR (by injection e)))).trans (h0.pf i),
                lb := (hg1.block L (blk_lt h0.lb) (fun e => hRL (by injection e))).trans h0.lb, ll := h0.ll, l64 := h0.l64, mp := h0.mp.kept hg1 (fun e => hRM (by injection e)), dp := h0.dp, dl := h0.dl, dm := h0.dm, pl := h0.pl, pm := h0.pm, lm := h0.lm }
      have hfr1 : Fr3 P L M W w2 := st.out.fr.new hg1 HWS.out
      have hrg2 := hrg1.alloc (.cells C 66)
      have hdev2 := hd1.below ((Below.refl _ _).alloc (o := .cells C 66) (Nat.le_refl _))
      have hfr2 : Fr3 P L M W (w2.alloc (.cells C 66)) := hfr1.trans (Fr3.of_below ((Below.refl _ _).alloc (Nat.le_refl _) _))
      have hrg3 := hrg2.kept (w' := (w2.alloc (.cells C 66)).drew) (row := none) ⟨rfl, rfl, rfl, Nat.le_refl _, fun _ _ _ => rfl⟩ (by simp) (by simp)
      have hdev3 := hdev2.below (W' := (w2.alloc (.cells C 66)).drew) ((Below.refl _ _).drew)
      have hfr3 : Fr3 P L M W (w2.alloc (.cells C 66)).drew := hfr2.trans (Fr3.of_below ((Below.refl _ _).drew))
      have kst := hdev3.store q hqn c hc64
      rw [← hC] at kst
      have hg4 := setRow_grown ((w2.alloc (.cells C 66)).drew) L (lasC (las'.set q c)).toArray
      have hrg4 := hrg3.kept hg4 (fun e => by injection e with e; exact hd1.lm e.symm) (fun e => by injection e with e; exact hRL e.symm)
      have hdev4 := hdev3.setLas q c hc64
      have hfr4 := hfr3.trans (Fr3.of_grown hg4 (fun _ e => by injection e with e; exact .inr (.inl e.symm)))
      have e1 := hdev3.d1
      have hrow : (w2.alloc (.cells C 66)).drew.heap[w2.heap.size]? = some (.cells C 66 (0, 0)) := hp_new rfl
      have hrgA : (w2.alloc (.cells C 66)).drew.rangeAt w2.heap.size 0 C.toList := fun i v hv => by
        rw [Nat.zero_add, cell_of_row _ w2.heap.size i C _ _ hrow]; simpa using hv
      have ST2 := Lib.hid (SyY.mk hdev4 hrg4 SS.out hfr4)
      have HM := Lib.hid (hrg4.left_eq)
      have hlt2 : cnt1 < cnt := hlt
      generalize (lasC (las'.set q c)).toArray = LC at kst ST2 HM
      have hq1 : (q : Int) < (n : Int) := by omega
      have hq0 : (0 : Int) ≤ (q : Int) := by omega
      have ed1 : w2.cell? ⟨D, 1, none⟩ = some (.slice (some ⟨L, 0, none⟩) n n) := hd1.d1
      clear st hrg hrg1 hrg2 hrg3 hrg4 hdev2 hdev3 hdev4 hd1 hfr1 hfr2 hfr3 hfr4 SS hg1 hs1 hkey hlk hv hat hfx hC hCV hg4 hrow q0 q1 hlt hc64
      go_wp2_with (first
        | (refine wpList_store_row rfl 66 _ _ rfl w2.heap.size C rfl rfl 66 zeroC (hp_new rfl) z3 z1 z2 ?_; rw [World.setRow_alloc_new])
        | fail)
      refine wp_region_still_tail 6 (by kernel_rfl) (by kernel_rfl) ?_
      simp only [List.take_succ_cons, List.take_zero, List.drop_succ_cons, List.drop_zero]
      generalize hwd : (w2.alloc (.cells C 66)).drew = wd at *
      change wpStill _ _ ((w2.alloc (.cells C 66)).drew) (fun _ => wpList _ _ _ _ _ ((w2.alloc (.cells C 66)).drew)) _ _
      rw [hwd]
      still_step
      still_step
      still_step
      still_step
      still_step
      refine wpStill_load_row (by rfl) 66 _ rfl w2.heap.size 0 rfl C.toList _ hrgA Try.underlying66 rfl (by rw [Array.length_toList]; exact z3) ?_
      simp only [Array.toArray_toList]
      refine wpStill_nil ?_
      go_wp2_with (first
        | (refine wpList_store_eq rfl 66 _ _ rfl rfl rfl kst ?_; go_frame)
        | fail)
      go_roundw
      case rel => exact ⟨_, _, cnt1, ST2⟩
      case measure => rw [HM.out, hle]; exact hlt2
end Go.Proofs.Ytobgopiadfinbaa
