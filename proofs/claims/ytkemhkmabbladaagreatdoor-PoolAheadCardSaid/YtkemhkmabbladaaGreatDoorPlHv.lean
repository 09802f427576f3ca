/-
  WHAT IS NEEDED OF THE DEVICE'S TEXTS, AS FAR AS THIS SEAT HAS ITS FUNCTIONS (put together by wip/only-there.py).
-/
import Derived.Test.YtkemhkmabbladaaGreatDoorDva
import Derived.Deep.RegionHeld3
import Derived.Maps.AppendAt
import Derived.Maps.RangeWalk
namespace Go.Proofs.YtkemhkmabbladaaGreatDoor.Dv
open Go.RowKit
section
variable {W : World} {D P L M n k : Nat} {off : Bool} {uses : Int} {armed : Bool} {left : Int} {las : List (List UInt8)} {f : Int → Option (List UInt8)}
/-- The state of Crash's loop. -/
structure CrSt (B : Nat) (W wr : World) (D P L M n k : Nat) (off : Bool) (uses : Int) (armed : Bool) (left : Int) (las : List (List UInt8)) (f : Int → Option (List UInt8)) : Prop where
  dev : DevAt wr D P L M n k off uses armed left las f
  bel : Below B W wr
  gr : W.grownBy wr (some L)
def CrashPost (B : Nat) (W : World) (D P L M n k : Nat) (uses left : Int) (las : List (List UInt8)) (e : Ending) (w' : World) : Prop :=
  e = .returned (.tuple #[]) ∧ DevAt w' D P L M n k false uses false left las (fun _ => none) ∧ Below B W w'
def CrashFr (B : Nat) (W : World) (D P L M n k : Nat) (uses left : Int) (las : List (List UInt8)) (e : Ending) (w' : World) : Prop :=
  e = .returned (.tuple #[]) ∧ DevAt w' D P L M n k false uses false left las (fun _ => none) ∧ Below B W w' ∧ Fr3 P L M W w'
end
open Go.RowKit Go.Maps Go.ChangeMaps Go.MapKept Go.WideElems
/-- What lasts while sectors are made to last. -/
def SyP (n : Nat) (las las' : List (List UInt8)) (f : Int → Option (List UInt8)) (lf : Lit → Bool) : Prop :=
  ∀ j : Nat, j < n → las'.getD j blank64 = match f (j : Int) with
    | some l => if lf (.int .i64 (j : Int)) = true then las.getD j blank64 else l
    | none => las.getD j blank64
/-- A round of the range: what has come is a loose sector. -/
theorem came {D0 : DataW Unit} {f : Int → Option (List UInt8)} (hm : MapIs D0 f) {x : Int} {c : List UInt8} {kl : Lit} {y : DataW Unit × List MemPlace} (hk : keyOf Tryz.prog 3 (.int .i64 x) = some kl) (hv : secR (H := Unit) (secV c) = some y) (hat : ∀ zd, D0.atKey kl zd = y.1) :
    kl = .int .i64 x ∧ f x = some c ∧ c.length = 64 := by
  obtain ⟨x', e, rfl, _⟩ := Maps.keyOf_int_inv Tryz.underlying3 hk
  cases e
  obtain ⟨l, hl, e, rfl⟩ := secR_inv hv
  obtain rfl := secV_inj e
  obtain ⟨h1, h2⟩ := hm
  refine ⟨rfl, ?_, hl⟩
  cases hf : f x with
  | some m =>
    have h3 := h2 x m hf
    rw [hat] at h3
    simp only [DataW.lit.injEq, Lit.string.injEq] at h3
    rw [h3]
  | none =>
    have hn : has D0 (.int .i64 x) = false := by rw [h1 x, hf]; rfl
    have ha := atKey_of_not_has hn (.nil)
    rw [hat] at ha
    cases ha
theorem SyP.start (n : Nat) (las : List (List UInt8)) {D0 : DataW Unit} {f : Int → Option (List UInt8)} (hm : MapIs D0 f) : SyP n las las f (Maps.has D0) := fun j _ => by
  cases hf : f (j : Int) with
  | none => rfl
  | some l =>
    have : Maps.has D0 (.int .i64 (j : Int)) = true := by rw [hm.1, hf]; rfl
    show _ = if _ then _ else _
    rw [if_pos this]
theorem SyP.step {n : Nat} {las las' : List (List UInt8)} {f : Int → Option (List UInt8)} {lf : Lit → Bool} (h : SyP n las las' f lf) {q : Nat} {c : List UInt8} (hq : q < n) (hl : las'.length = n) (hf : f (q : Int) = some c) :
    SyP n las (las'.set q c) f (fun z => lf z && !z.sameKey (.int .i64 (q : Int))) := fun j hj => by
  have hg : (las'.set q c).getD j blank64 = if j = q then c else las'.getD j blank64 := by
    simp only [List.getD_eq_getElem?_getD, List.getElem?_set]
    by_cases e : q = j
    · subst e; simp [hl, hq]
    · rw [if_neg e, if_neg (fun x => e x.symm)]
  rw [hg]
  by_cases e : j = q
  · subst e
    rw [if_pos rfl, hf]
    have : (Lit.int .i64 (j : Int)).sameKey (.int .i64 (j : Int)) = true := by simp [Lit.sameKey]
    simp [this]
  · rw [if_neg e, h j hj]
    have : (Lit.int .i64 (j : Int)).sameKey (.int .i64 (q : Int)) = false := by
      simp [Lit.sameKey]; omega
    simp [this]
theorem SyP.done {n : Nat} {las las' : List (List UInt8)} {f : Int → Option (List UInt8)} {lf : Lit → Bool} (h : SyP n las las' f lf) (h0 : ∀ kl, lf kl = false) : ∀ j : Nat, j < n → las'.getD j blank64 = secAt las f j := fun j hj => by
  rw [h j hj]; unfold secAt
  cases f (j : Int) with
  | none => rfl
  | some l => simp [h0]
def SyncPost (W : World) (D P L M n k : Nat) (uses left : Int) (las : List (List UInt8)) (f : Int → Option (List UInt8)) (e : Ending) (w' : World) : Prop :=
  e = .returned (.int .i64 0) ∧ ∃ las2, DevAt w' D P L M n k false (uses + 1) false left las2 (fun _ => none) ∧ (∀ j : Nat, j < n → las2.getD j blank64 = secAt las f j) ∧ Fr3 P L M W w'
structure SyW (W wr : World) (D P L M n k R : Nat) (uses left : Int) (las las' : List (List UInt8)) (f : Int → Option (List UInt8)) (D0 : DataW Unit) (lf : Lit → Bool) (cnt : Nat) : Prop where
  dev : DevAt wr D P L M n k false uses false left las' f
  rg : wr.ranges Tryz.prog 3 (secR (H := Unit)) M R k D0 lf cnt
  sy : SyP n las las' f lf
  fr : Fr3 P L M W wr
set_option linter.unusedSimpArgs false in
set_option maxRecDepth 100000 in
set_option maxHeartbeats 4000000 in
theorem sync_any {W : World} {D P L M n k : Nat} {uses left : Int} {las : List (List UInt8)} {f : Int → Option (List UInt8)} (h : DevAt W D P L M n k false uses false left las f) (hu : 0 ≤ uses ∧ uses ≤ 1000000000)
    (hf : ∀ z l, f z = some l → 0 ≤ z ∧ z < (n : Int) ∧ l.length = 64) :
    Calls Tryz.prog 54 #[.pointer (some ⟨D, 0, none⟩)] W (SyncPost W D P L M n k uses left las f) := by
  have KU := Lib.hid (use_on h hu)
  have hd := h.d0
  have h' := (h.pow).2.1 (uses + 1)
  have HF := Lib.hid hf; clear hf
  have HW1 := Lib.hid (Fr3.setP (P := P) (L := L) (M := M) W 1 (.int .i64 (uses + 1)))
  obtain ⟨W1, hW1⟩ : ∃ W1, W1 = W.setCell ⟨P, 1, none⟩ (.int .i64 (uses + 1)) := ⟨_, rfl⟩
  rw [← hW1] at h' KU HW1
  clear hW1 h
  have hd2 := h'.d2
  obtain ⟨D0, hown, hmi⟩ := h'.mp
  have HMI := Lib.hid hmi
  have H1 := Lib.hid h'
  have hLs := blk_lt h'.lb
  have hMs := hown.lt
  clear hmi h'
  go_enter Tryz.func54, Tryz.ntmps54
  go_wp2_with fail
  refine KU.out.mono ?_
  rintro x w1 ⟨rfl, rfl⟩
  go_wp2_with (first
    | (at_range; refine wpList_range_own _ rfl _ 102 rfl 3 129 keyLaw Tryz.underlying102 (secR (H := Unit)) M k D0 rfl hown ?_; intro w0 hrg0 hg0 hs0)
    | fail)
  go_frame
  have S0 : Hid (SyW W w0 D P L M n k w1.heap.size (uses + 1) left las las f D0 (Maps.has D0) (Maps.size D0)) :=
    ⟨H1.out.below ⟨hg0.os, hg0.tape, hg0.output, hg0.size, fun j hj => hg0.block j hj (by simp)⟩, hrg0, SyP.start n las HMI.out, HW1.out.trans (Fr3.of_grown hg0 (fun _ e => by cases e))⟩
  have hRL : L ≠ w1.heap.size := by omega
  have hRM : M ≠ w1.heap.size := by omega
  have hRs : w1.heap.size < w0.heap.size := by omega
  have hR := Nat.le_refl w1.heap.size
  clear hg0 hs0 hrg0 H1 hLs hMs hown hd2 hd KU
  have HG0 : Hid (Fr3 P L M W w1 ∧ w1.heap.size ≤ w1.heap.size) := ⟨HW1.out, hR⟩
  have HWS := Lib.hid HW1.out.size
  clear HG0 HW1 hR
  generalize w1.heap.size = R at *
  go_loopw [3] (fun _ wr => ∃ (las' : List (List UInt8)) (lf : Lit → Bool) (cnt : Nat), Hid (SyW W wr D P L M n k R (uses + 1) left las las' f D0 lf cnt)) (fun _ wr => wr.rangeLeft M R)
  case atStart => exact ⟨las, _, _, S0⟩
  case round =>
    obtain ⟨las', lf, cnt, st⟩ := hrel
    clear S0 hRs
    have hrg := Lib.hid st.out.rg
    have hle := st.out.rg.left_eq
    go_wp2_with (first
      | (at_next; refine wpList_next_ranges _ rfl _ rfl 3 keyLaw (secR (H := Unit)) (Value.int .i64) secV (fun key kl hkey => by obtain ⟨x, rfl, _⟩ := Maps.keyOf_int_inv Tryz.underlying3 hkey; exact ⟨x, rfl⟩) (fun v y hv => by obtain ⟨l, _, rfl, _⟩ := secR_inv hv; exact ⟨l, rfl⟩) M R k D0 lf cnt rfl hrg.out ?_ ?_)
      | fail)
    · intro hc0 hl0
      have SD := Lib.hid (st.out.sy.done hl0)
      obtain ⟨w2, hwipe, hm2, hg2⟩ := st.out.dev.mp.wipe 0
      have hdev2 := Lib.hid (st.out.dev.map hg2 hm2)
      have hfr2 := Lib.hid (st.out.fr.trans (Fr3.of_grown hg2 (fun _ e => by injection e with e; exact .inr (.inr e.symm))))
      have e2 := st.out.dev.d2
      clear st hrg hle hm2 hg2
      go_wp2
      go_ret
      exact ⟨rfl, las', hdev2.out, SD.out, hfr2.out⟩
    · intro x c kl y1 y2 w2 cnt1 hkey hlk hv hat hrg1 hlt hg1 hs1 hen
      obtain ⟨rfl, hfx, hc64⟩ := came HMI.out hkey hv hat
      obtain ⟨q0, q1, _⟩ := HF.out x c hfx
      obtain ⟨q, rfl⟩ := Int.eq_ofNat_of_zero_le q0
      have hqn : q < n := by omega
      have SS := Lib.hid (st.out.sy.step hqn st.out.dev.ll hfx)
      obtain ⟨C, hC⟩ : ∃ C, C = (secC c).toArray := ⟨_, rfl⟩
      have hCV : secV c = .agg C := by rw [hC]; rfl
      rw [hCV] at hen
      have hC64 : C.size = 64 := by rw [hC, List.size_toArray, secC_len, hc64]
      have z2 : C.all (·.oneCell') = true := by rw [hC]; exact secV_one _
      have z3 : (Tryz.prog.info? 129).map (·.size) = some C.size := by rw [hC64]; exact (zero_of_info infoK).2
      have z1 : zeroC.size = C.size := by rw [hC64]; rfl
      -- the iterator was turned: the device is as it was
      have hd1 : DevAt w2 D P L M n k false (uses + 1) false left las' f := by
        have h0 := st.out.dev
        have hDR : D ≠ R := fun e => by
          have := h0.d0
          have hr := st.out.rg
          obtain ⟨_, _, _, _, _, _, _, _, _, hi, _⟩ := hr
          rw [e] at this
          simp [World.cell?, hi] at this
        have hPR : P ≠ R := fun e => by
          have := h0.p0
          obtain ⟨_, _, _, _, _, _, _, _, _, hi, _⟩ := st.out.rg
          rw [e] at this
          simp [World.cell?, hi] at this
        exact { d0 := cell_apart hg1 hDR h0.d0, d1 := cell_apart hg1 hDR h0.d1, d2 := cell_apart hg1 hDR h0.d2, p0 := cell_apart hg1 hPR h0.p0, p1 := cell_apart hg1 hPR h0.p1, p2 := cell_apart hg1 hPR h0.p2, p3 := cell_apart hg1 hPR h0.p3,
                pf := fun i => (World.frozen?_of_block (hg1.block P (block_lt (p := ⟨P, 0, none⟩) h0.p0) (fun e => hPR (by injection e)))).trans (h0.pf i),
                lb := (hg1.block L (blk_lt h0.lb) (fun e => hRL (by injection e))).trans h0.lb, ll := h0.ll, l64 := h0.l64, mp := h0.mp.kept hg1 (fun e => hRM (by injection e)), dp := h0.dp, dl := h0.dl, dm := h0.dm, pl := h0.pl, pm := h0.pm, lm := h0.lm }
      have hfr1 : Fr3 P L M W w2 := st.out.fr.new hg1 HWS.out
      have hrg2 := hrg1.alloc (.cells C 129)
      have hdev2 := hd1.below ((Below.refl _ _).alloc (o := .cells C 129) (Nat.le_refl _))
      have hfr2 : Fr3 P L M W (w2.alloc (.cells C 129)) := hfr1.trans (Fr3.of_below ((Below.refl _ _).alloc (Nat.le_refl _) _))
      have hrg3 := hrg2.kept (w' := (w2.alloc (.cells C 129)).drew) (row := none) ⟨rfl, rfl, rfl, Nat.le_refl _, fun _ _ _ => rfl⟩ (by simp) (by simp)
      have hdev3 := hdev2.below (W' := (w2.alloc (.cells C 129)).drew) ((Below.refl _ _).drew)
      have hfr3 : Fr3 P L M W (w2.alloc (.cells C 129)).drew := hfr2.trans (Fr3.of_below ((Below.refl _ _).drew))
      have kst := hdev3.store q hqn c hc64
      rw [← hC] at kst
      have hg4 := setRow_grown ((w2.alloc (.cells C 129)).drew) L (lasC (las'.set q c)).toArray
      have hrg4 := hrg3.kept hg4 (fun e => by injection e with e; exact hd1.lm e.symm) (fun e => by injection e with e; exact hRL e.symm)
      have hdev4 := hdev3.setLas q c hc64
      have hfr4 := hfr3.trans (Fr3.of_grown hg4 (fun _ e => by injection e with e; exact .inr (.inl e.symm)))
      have e1 := hdev3.d1
      have hrow : (w2.alloc (.cells C 129)).drew.heap[w2.heap.size]? = some (.cells C 129 (0, 0)) := hp_new rfl
      have hrgA : (w2.alloc (.cells C 129)).drew.rangeAt w2.heap.size 0 C.toList := fun i v hv => by
        rw [Nat.zero_add, cell_of_row _ w2.heap.size i C _ _ hrow]; simpa using hv
      have ST2 := Lib.hid (SyW.mk hdev4 hrg4 SS.out hfr4)
      have HM := Lib.hid (hrg4.left_eq)
      have hlt2 : cnt1 < cnt := hlt
      generalize (lasC (las'.set q c)).toArray = LC at kst ST2 HM
      have hq1 : (q : Int) < (n : Int) := by omega
      have hq0 : (0 : Int) ≤ (q : Int) := by omega
      have ed1 : w2.cell? ⟨D, 1, none⟩ = some (.slice (some ⟨L, 0, none⟩) n n) := hd1.d1
      clear st hrg hrg1 hrg2 hrg3 hrg4 hdev2 hdev3 hdev4 hd1 hfr1 hfr2 hfr3 hfr4 SS hg1 hs1 hkey hlk hv hat hfx hC hCV hg4 hrow q0 q1 hlt hc64
      go_wp2_with (first
        | (refine wpList_store_row rfl 129 _ _ rfl w2.heap.size C rfl rfl 129 zeroC (hp_new rfl) z3 z1 z2 ?_; rw [World.setRow_alloc_new])
        | fail)
      refine wp_region_still_tail 6 (by kernel_rfl) (by kernel_rfl) ?_
      simp only [List.take_succ_cons, List.take_zero, List.drop_succ_cons, List.drop_zero]
      generalize hwd : (w2.alloc (.cells C 129)).drew = wd at *
      change wpStill _ _ ((w2.alloc (.cells C 129)).drew) (fun _ => wpList _ _ _ _ _ ((w2.alloc (.cells C 129)).drew)) _ _
      rw [hwd]
      still_step
      still_step
      still_step
      still_step
      still_step
      refine wpStill_load_row (by rfl) 129 _ rfl w2.heap.size 0 rfl C.toList _ hrgA Tryz.underlying129 rfl (by rw [Array.length_toList]; exact z3) ?_
      simp only [Array.toArray_toList]
      refine wpStill_nil ?_
      go_wp2_with (first
        | (refine wpList_store_eq rfl 129 _ _ rfl rfl rfl kst ?_; go_frame)
        | fail)
      go_roundw
      case rel => exact ⟨_, _, cnt1, ST2⟩
      case measure => rw [HM.out, hle]; exact hlt2
def WriteFr (W : World) (D P L M n k : Nat) (uses left : Int) (las : List (List UInt8)) (f : Int → Option (List UInt8)) (i : Int) (l : List UInt8) (e : Ending) (w' : World) : Prop :=
  e = .returned (.int .i64 0) ∧ DevAt w' D P L M n (k + 1) false (uses + 1) false left las (upd f i (some (pad l))) ∧ Fr3 P L M W w'
set_option linter.unusedSimpArgs false in
set_option maxRecDepth 100000 in
set_option maxHeartbeats 2000000 in
theorem write_fr {W : World} {D P L M n k : Nat} {uses left : Int} {las : List (List UInt8)} {f : Int → Option (List UInt8)} (h : DevAt W D P L M n k false uses false left las f) (hu : 0 ≤ uses ∧ uses ≤ 1000000000) (hk : k ≤ 1000000)
    (i : Int) (hi : 0 ≤ i ∧ i < (n : Int)) (hn : n ≤ 4096) (sa : Option Addr) (ss : List ByteArray) (c : Nat) (hs : ss.length ≤ 1000000) (hsa' : StrsAt (W.setCell ⟨P, 1, none⟩ (.int .i64 (uses + 1))) sa ss) (hz : ∀ i, (ss.getD i ByteArray.empty).size ≤ 140737488355328) (hfit : (joined ss).length ≤ 64) :
    Calls Tryz.prog 53 #[.pointer (some ⟨D, 0, none⟩), .int .i64 i, .slice sa ss.length c] W (WriteFr W D P L M n k uses left las f i (joined ss)) := by
  have KU := Lib.hid (use_on h hu)
  have hd := h.d0
  have h' := (h.pow).2.1 (uses + 1)
  obtain ⟨W1, hW1⟩ : ∃ W1, W1 = W.setCell ⟨P, 1, none⟩ (.int .i64 (uses + 1)) := ⟨_, rfl⟩
  rw [← hW1] at h' hsa' KU
  have hb1 : Fr3 P L M W W1 := by rw [hW1]; exact Fr3.setP _ _ _
  clear hW1
  have KL := Lib.hid (lay_any sa ss c W1 hs hsa' hz)
  obtain ⟨C, hC⟩ : ∃ C, C = (secC (pad (joined ss))).toArray := ⟨_, rfl⟩
  have hlv : layV ss = .tuple #[.agg C, .bool true] := by unfold layV; rw [if_pos hfit, hC]; rfl
  rw [hlv] at KL
  have z3 : (Tryz.prog.info? 129).map (·.size) = some C.size := by rw [hC]; exact sec_info hfit
  have z1 : zeroC.size = C.size := by
    have e : C.size = 64 := by rw [hC, List.size_toArray, secC_len, pad_len hfit]
    rw [e]; rfl
  have z2 : C.all (·.oneCell') = true := by rw [hC]; exact secV_one _
  have HC := Lib.hid hC
  clear hC hlv
  go_enter Tryz.func53, Tryz.ntmps53
  go_wp2_with fail
  refine KU.out.mono ?_
  rintro x w1 ⟨rfl, rfl⟩
  go_wp2_with fail
  refine KL.out.mono ?_
  rintro x w2 ⟨rfl, hb2⟩
  have h2 := h'.below hb2
  have hb3 : Fr3 P L M W w2 := hb1.trans (Fr3.of_below hb2)
  clear hb2 h' hsa' KU KL
  go_wp2_with (first
    | (refine wpList_store_row rfl 129 _ _ rfl w2.heap.size C rfl rfl 129 zeroC (hp_new rfl) z3 z1 z2 ?_; rw [World.setRow_alloc_new])
    | fail)
  have h3 := h2.below ((Below.refl _ _).alloc (o := .cells C 129) (Nat.le_refl _))
  have hH : hasB n i = true := by unfold hasB; rw [decide_eq_true hi.1, decide_eq_true hi.2]; rfl
  have KH := Lib.hid (has_any h3 i)
  rw [hH] at KH
  refine KH.out.mono ?_
  rintro x W3 ⟨rfl, hW3⟩
  rw [hW3] at h3
  have hrow : W3.heap[w2.heap.size]? = some (.cells C 129 (0, 0)) := by rw [← hW3]; exact hp_new rfl
  have hb4 : Fr3 P L M W W3 := by rw [← hW3]; exact hb3.trans (Fr3.of_below ((Below.refl _ _).alloc (Nat.le_refl _) _))
  have h5 := h3.below (W' := W3.drew) ((Below.refl _ _).drew)
  have hsc : C.size = 64 := by rw [HC.out, List.size_toArray, secC_len, pad_len hfit]
  have kld : (Instr.loadAt 129 (.pointer (some ⟨w2.heap.size, 0, none⟩))).run Tryz.prog W3.drew = .ok (.agg C) W3.drew := by
    simp only [Instr.loadAt, Instr.sureAddr, Sem.run_bind, Sem.run_pure, Result.andThen_ok]
    exact run_loadVar_row _ w2.heap.size 129 129 C (0, 0) _ hrow Tryz.underlying129 rfl z3
  obtain ⟨W4, kst, hm4, hg4⟩ := h5.mp.store i (by have := hi.1; have := hi.2; exact WalkArith.wf_i64 (by omega)) (pad (joined ss)) (pad_len hfit) (by unfold maxLen; omega)
  have h6 := h5.map hg4 hm4
  have hb5 : Fr3 P L M W W4 := (hb4.trans (Fr3.of_below ((Below.refl _ _).drew))).trans (Fr3.of_grown hg4 (fun _ e => by injection e with e; exact .inr (.inr e.symm)))
  rw [show secV (pad (joined ss)) = .agg C by rw [HC.out]; rfl] at kst
  have hd2 := h5.d2
  have H6 := Lib.hid h6
  have hd4 := h6.d2
  have hrg : W3.drew.rangeAt w2.heap.size 0 C.toList := fun j v hv => by
    rw [Nat.zero_add, cell_of_row W3.drew w2.heap.size j C _ _ hrow]; simpa using hv
  have hMb : M ≠ w2.heap.size := by have := h2.mp; obtain ⟨_, hM, _⟩ := this; have := hM.lt; omega
  have hrg4 : W4.rangeAt w2.heap.size 0 C.toList := fun j v hv => cell_apart hg4 (fun e => hMb e.symm) (hrg j v hv)
  clear h2 h3 hW3 hb3 hb4 h5 hm4 hg4 h6 hb1 z1 z2 HC KH
  go_wp2_with fail
  refine wp_region_held_drew (S := (fun w' => w'.cell? ⟨D, 2, none⟩ = some (.map (some M)) ∧ w'.rangeAt w2.heap.size 0 C.toList)) (by kernel_rfl) ?_ (fun hHeld => ?_)
  · (try dsimp only); exact ⟨(by first | exact hd2 | exact hd4), (by first | exact hrg | exact hrg4)⟩
  refine wpAnyH_take (i := 0) (v := ?_) rfl (by kernel_rfl) (by kernel_rfl) (by kernel_rfl) (fun _ _ _ h => h) (Or.inl ⟨by rfl, ?_⟩) (by assumption) ?_
  rotate_left 1
  · (intro w' hSw; (try dsimp only at hSw); go_simp; try (with_reducible rfl))
  try simp only [Act.put, List.setIfInBounds_toArray, List.set_cons_zero, List.set_cons_succ]
  refine wpAnyH_take (i := 1) (v := ?_) rfl (by kernel_rfl) (by kernel_rfl) (by kernel_rfl) (fun _ _ _ h => h) (Or.inl ⟨by rfl, ?_⟩) (by assumption) ?_
  rotate_left 1
  · (intro w' hSw; (try dsimp only at hSw); go_simp; try (with_reducible rfl))
  try simp only [Act.put, List.setIfInBounds_toArray, List.set_cons_zero, List.set_cons_succ]
  refine wpAnyH_take (i := 2) (v := ?_) rfl (by kernel_rfl) (by kernel_rfl) (by kernel_rfl) (fun _ _ _ h => h) (Or.inl ⟨by rfl, ?_⟩) (by assumption) ?_
  rotate_left 1
  · (intro w' hSw; (try dsimp only at hSw); go_simp; try (with_reducible rfl))
  try simp only [Act.put, List.setIfInBounds_toArray, List.set_cons_zero, List.set_cons_succ]
  refine wpAnyH_take (i := 3) (v := ?_) rfl (by kernel_rfl) (by kernel_rfl) (by kernel_rfl) (fun _ _ _ h => h) (Or.inl ⟨by rfl, ?_⟩) (by assumption) ?_
  rotate_left 1
  · (intro w' hSw; (try dsimp only at hSw); go_simp; try (with_reducible rfl))
  try simp only [Act.put, List.setIfInBounds_toArray, List.set_cons_zero, List.set_cons_succ]
  refine wpAnyH_take (i := 4) (v := ?_) rfl (by kernel_rfl) (by kernel_rfl) (by kernel_rfl) (fun _ _ _ h => h) (Or.inl ⟨by rfl, ?_⟩) (by assumption) ?_
  rotate_left 1
  · (intro w' hSw; (try dsimp only at hSw); go_simp; try (with_reducible rfl))
  try simp only [Act.put, List.setIfInBounds_toArray, List.set_cons_zero, List.set_cons_succ]
  refine wpAnyH_take (i := 5) (v := .agg C.toList.toArray) rfl (by kernel_rfl) (by kernel_rfl) (by kernel_rfl) (fun _ _ _ h => h) (yieldsIf_load_mid (by rfl) 129 _ rfl w2.heap.size 0 rfl C.toList _ (fun w hw => hw.2) Tryz.underlying129 rfl (by rw [Array.length_toList]; exact z3)) (by assumption) ?_
  simp only [Act.put, List.setIfInBounds_toArray, Array.toArray_toList, List.set_cons_zero, List.set_cons_succ]
  refine wpAnyH_ready (rs := [6]) (by kernel_rfl) (by simp) ?_
  refine AllReadyH.cons rfl (fun K hK => ?_) AllReadyH.nil
  go_simp
  refine hK.out _ _ ?_ (fun hHeld => ?_)
  · (try dsimp only); exact ⟨(by first | exact hd2 | exact hd4), (by first | exact hrg | exact hrg4)⟩
  clear hK K
  refine wpAnyH_done (by kernel_rfl) ?_ _
  go_wp2
  go_ret
  exact ⟨rfl, H6.out, hb5⟩
/-- A write that writes nothing: no such sector, or more than it holds. -/
def WriteNo (W : World) (D P L M n k : Nat) (uses left : Int) (las : List (List UInt8)) (f : Int → Option (List UInt8)) (e : Ending) (w' : World) : Prop :=
  e = .returned (.int .i64 1) ∧ DevAt w' D P L M n k false (uses + 1) false left las f ∧ Fr3 P L M W w'
set_option linter.unusedSimpArgs false in
set_option maxRecDepth 100000 in
set_option maxHeartbeats 2000000 in
theorem write_no {W : World} {D P L M n k : Nat} {uses left : Int} {las : List (List UInt8)} {f : Int → Option (List UInt8)} (h : DevAt W D P L M n k false uses false left las f) (hu : 0 ≤ uses ∧ uses ≤ 1000000000)
    (i : Int) (sa : Option Addr) (ss : List ByteArray) (c : Nat) (hs : ss.length ≤ 1000000) (hsa' : StrsAt (W.setCell ⟨P, 1, none⟩ (.int .i64 (uses + 1))) sa ss) (hz : ∀ i, (ss.getD i ByteArray.empty).size ≤ 140737488355328) (hno : 64 < (joined ss).length ∨ hasB n i = false) :
    Calls Tryz.prog 53 #[.pointer (some ⟨D, 0, none⟩), .int .i64 i, .slice sa ss.length c] W (WriteNo W D P L M n k uses left las f) := by
  have KU := Lib.hid (use_on h hu)
  have hd := h.d0
  have h' := (h.pow).2.1 (uses + 1)
  obtain ⟨W1, hW1⟩ : ∃ W1, W1 = W.setCell ⟨P, 1, none⟩ (.int .i64 (uses + 1)) := ⟨_, rfl⟩
  rw [← hW1] at h' hsa' KU
  have hb1 : Fr3 P L M W W1 := by rw [hW1]; exact Fr3.setP _ _ _
  clear hW1
  have KL := Lib.hid ((lay_any sa ss c W1 hs hsa' hz).mono fun e w' hh => (⟨hh.1, Lib.hid (h'.below hh.2), Lib.hid (hb1.trans (Fr3.of_below hh.2))⟩ : e = .returned (layV ss) ∧ Hid (DevAt w' D P L M n k false (uses + 1) false left las f) ∧ Hid (Fr3 P L M W w')))
  have hV : ∃ (l0 : List UInt8) (b : Bool), l0.length = 64 ∧ layV ss = .tuple #[.agg (secC l0).toArray, .bool b] ∧ (b = true → hasB n i = false) := by
    unfold layV
    by_cases h : (joined ss).length ≤ 64
    · rw [if_pos h]
      refine ⟨_, true, pad_len h, rfl, fun _ => ?_⟩
      rcases hno with hno | hno
      · omega
      · exact hno
    · rw [if_neg h]; exact ⟨_, false, pad_len (by decide), rfl, fun e => by cases e⟩
  obtain ⟨l0, b, hl0, hlv, hbn⟩ := hV
  rw [hlv] at KL
  have hC64 : (secC l0).toArray.size = 64 := by rw [List.size_toArray, secC_len, hl0]
  have z2 : (secC l0).toArray.all (·.oneCell') = true := secV_one _
  generalize (secC l0).toArray = C at KL hC64 z2
  have z3 : (Tryz.prog.info? 129).map (·.size) = some C.size := by rw [hC64]; exact (zero_of_info infoK).2
  have z1 : zeroC.size = C.size := by rw [hC64]; rfl
  clear hlv hl0 hC64 h' hsa' hb1
  cases b with
  | true =>
    have hH := hbn rfl
    clear hbn hno
    go_enter Tryz.func53, Tryz.ntmps53
    go_wp2_with fail
    refine KU.out.mono ?_
    rintro x w1 ⟨rfl, rfl⟩
    go_wp2_with fail
    refine KL.out.mono ?_
    rintro x w2 ⟨rfl, hd2, hf2⟩
    have hd3 := Lib.hid (hd2.out.below ((Below.refl _ _).alloc (o := .cells C 129) (Nat.le_refl _)))
    have hf3 := Lib.hid (hf2.out.trans (Fr3.of_below ((Below.refl _ _).alloc (o := .cells C 129) (Nat.le_refl _))))
    have KH := Lib.hid (has_any hd3.out i)
    rw [hH] at KH
    clear hd2 hf2
    go_wp2_with (first
      | (refine wpList_store_row rfl 129 _ _ rfl w2.heap.size C rfl rfl 129 zeroC (hp_new rfl) z3 z1 z2 ?_; rw [World.setRow_alloc_new])
      | fail)
    refine KH.out.mono ?_
    rintro x w3 ⟨rfl, rfl⟩
    go_wp2
    go_ret
    exact ⟨rfl, hd3.out, hf3.out⟩
  | false =>
    clear hbn hno
    go_enter Tryz.func53, Tryz.ntmps53
    go_wp2_with fail
    refine KU.out.mono ?_
    rintro x w1 ⟨rfl, rfl⟩
    go_wp2_with fail
    refine KL.out.mono ?_
    rintro x w2 ⟨rfl, hd2, hf2⟩
    have hd3 := Lib.hid (hd2.out.below ((Below.refl _ _).alloc (o := .cells C 129) (Nat.le_refl _)))
    have hf3 := Lib.hid (hf2.out.trans (Fr3.of_below ((Below.refl _ _).alloc (o := .cells C 129) (Nat.le_refl _))))
    clear hd2 hf2
    go_wp2_with (first
      | (refine wpList_store_row rfl 129 _ _ rfl w2.heap.size C rfl rfl 129 zeroC (hp_new rfl) z3 z1 z2 ?_; rw [World.setRow_alloc_new])
      | fail)
    go_ret
    exact ⟨rfl, hd3.out, hf3.out⟩
/-- What is left behind a use. -/
def nl (armed : Bool) (left : Int) : Int := if armed then left - 1 else left
/-- The world behind a use. -/
def useW (P : Nat) (uses : Int) (armed : Bool) (left : Int) (W : World) : World :=
  if armed then (((W.setCell ⟨P, 1, none⟩ (.int .i64 (uses + 1))).setCell ⟨P, 0, none⟩ (.bool false)).setCell ⟨P, 3, none⟩ (.int .i64 (left - 1))) else W.setCell ⟨P, 1, none⟩ (.int .i64 (uses + 1))
section
variable {W : World} {D P L M n k : Nat} {uses left : Int} {armed : Bool} {las : List (List UInt8)} {f : Int → Option (List UInt8)}
theorem useW_dev (h : DevAt W D P L M n k false uses armed left las f) : DevAt (useW P uses armed left W) D P L M n k false (uses + 1) armed (nl armed left) las f := by
  cases armed with
  | true => exact ((h.pow.2.1 (uses + 1)).pow.1 false).pow.2.2.2 (left - 1)
  | false => exact h.pow.2.1 (uses + 1)
theorem useW_fr (W : World) (uses : Int) (armed : Bool) (left : Int) : Fr3 P L M W (useW P uses armed left W) := by
  cases armed with
  | true => exact ((Fr3.setP _ _ _).trans (Fr3.setP _ _ _)).trans (Fr3.setP _ _ _)
  | false => exact Fr3.setP _ _ _
theorem use_yes (h : DevAt W D P L M n k false uses armed left las f) (hu : 0 ≤ uses ∧ uses ≤ 1000000000) (hl : armed = true → 0 < left ∧ left ≤ 4611686018427387904) :
    Calls Tryz.prog 79 #[.pointer (some ⟨P, 0, none⟩)] W fun e w' => e = .returned (.bool true) ∧ w' = useW P uses armed left W := by
  cases armed with
  | false => exact use_on h hu
  | true =>
    obtain ⟨l0, l1⟩ := hl rfl
    have KO := Lib.hid (powOn_any P false W h.p0)
    have D1 := h.pow.2.1 (uses + 1)
    have D2 := D1.pow.1 false
    have D3 := D2.pow.2.2.2 (left - 1)
    have KX := Lib.hid (powOn_any P false _ D3.p0)
    have a1 := h.p1
    have a2 := D1.p2
    have a3 := D1.p3
    have a0 := D1.p0
    have b3 := D2.p3
    have hf := h.pf
    have hl0 : ¬ left = 0 := by omega
    have hl3 : (left == 0) = false := by rw [beq_eq_false_iff_ne]; exact hl0
    obtain ⟨u0, u1⟩ := hu
    clear h D1 D2 D3 hl
    go_enter Tryz.func79, Tryz.ntmps79
    go_wp2_with fail
    refine KO.out.mono ?_
    rintro x w1 ⟨rfl, rfl⟩
    go_wp2_with fail
    refine KX.out.mono ?_
    rintro x w1 ⟨rfl, rfl⟩
    clear a1 a2 a3 a0 b3
    go_wp2
    go_ret
    exact ⟨rfl, rfl⟩
end
section
variable {W : World} {D P L M n k : Nat} {uses left : Int} {las : List (List UInt8)} {f : Int → Option (List UInt8)}
theorem Fr3.two {a : World} {i j : Nat} {u v : Value} : Fr3 P L M a ((a.setCell ⟨P, i, none⟩ u).setCell ⟨P, j, none⟩ v) := (Fr3.setP a i u).trans (Fr3.setP _ j v)
/-- The use by which it goes off. -/
theorem use_last (h : DevAt W D P L M n k false uses true 0 las f) (hu : 0 ≤ uses ∧ uses ≤ 1000000000) :
    Calls Tryz.prog 79 #[.pointer (some ⟨P, 0, none⟩)] W fun e w' => e = .returned (.bool false) ∧ DevAt w' D P L M n k true (uses + 1) true (-1) las f ∧ Fr3 P L M W w' := by
  have KO := Lib.hid (powOn_any P false W h.p0)
  have D1 := h.pow.2.1 (uses + 1)
  have D2 := D1.pow.1 true
  have D3 := D2.pow.2.2.2 (-1)
  have KX := Lib.hid (powOn_any P true _ D3.p0)
  have HF : Hid (Fr3 P L M W (((W.setCell ⟨P, 1, none⟩ (.int .i64 (uses + 1))).setCell ⟨P, 0, none⟩ (.bool true)).setCell ⟨P, 3, none⟩ (.int .i64 (-1)))) := Fr3.two.trans (Fr3.setP _ 3 _)
  have HD := Lib.hid D3
  have a1 := h.p1
  have a2 := D1.p2
  have a3 := D1.p3
  have a0 := D1.p0
  have b3 := D2.p3
  have hf := h.pf
  obtain ⟨u0, u1⟩ := hu
  clear h D1 D2 D3
  go_enter Tryz.func79, Tryz.ntmps79
  go_wp2_with fail
  refine KO.out.mono ?_
  rintro x w1 ⟨rfl, rfl⟩
  go_wp2_with fail
  refine KX.out.mono ?_
  rintro x w1 ⟨rfl, rfl⟩
  clear a1 a2 a3 a0 b3
  go_wp2
  go_ret
  exact ⟨rfl, HD.out, HF.out⟩
theorem use_off {armed : Bool} (h : DevAt W D P L M n k true uses armed left las f) :
    Calls Tryz.prog 79 #[.pointer (some ⟨P, 0, none⟩)] W fun e w' => e = .returned (.bool false) ∧ W = w' := by
  have KO := Lib.hid (powOn_any P true W h.p0)
  clear h
  go_enter Tryz.func79, Tryz.ntmps79
  go_wp2_with fail
  refine KO.out.mono ?_
  rintro x w1 ⟨rfl, rfl⟩
  go_wp2
  go_ret
  exact ⟨rfl, rfl⟩
theorem sync_last (h : DevAt W D P L M n k false uses true 0 las f) (hu : 0 ≤ uses ∧ uses ≤ 1000000000) :
    Calls Tryz.prog 54 #[.pointer (some ⟨D, 0, none⟩)] W fun e w' => e = .returned (.int .i64 6) ∧ DevAt w' D P L M n k true (uses + 1) true (-1) las f ∧ Fr3 P L M W w' := by
  have KU := Lib.hid (use_last h hu)
  have hd := h.d0
  clear h
  go_enter Tryz.func54, Tryz.ntmps54
  go_wp2_with fail
  refine KU.out.mono ?_
  rintro x w1 ⟨rfl, hd1, hf1⟩
  have HD := Lib.hid hd1
  have HF := Lib.hid hf1
  clear hd1 hf1 hd KU
  go_wp2
  go_ret
  exact ⟨rfl, HD.out, HF.out⟩
theorem read_off {armed : Bool} (h : DevAt W D P L M n k true uses armed left las f) (i : Int) :
    Calls Tryz.prog 66 #[.pointer (some ⟨D, 0, none⟩), .int .i64 i] W fun e w' => e = .returned (.tuple #[.string ⟨#[]⟩, .int .i64 6]) ∧ W = w' := by
  have KO := Lib.hid (devOn h)
  clear h
  go_enter Tryz.func66, Tryz.ntmps66
  go_wp2_with fail
  refine KO.out.mono ?_
  rintro x w1 ⟨rfl, rfl⟩
  go_wp2
  go_ret2
  exact ⟨rfl, rfl⟩
theorem write_off {armed : Bool} (h : DevAt W D P L M n k true uses armed left las f) (i : Int) (v : Value) :
    Calls Tryz.prog 53 #[.pointer (some ⟨D, 0, none⟩), .int .i64 i, v] W fun e w' => e = .returned (.int .i64 6) ∧ W = w' := by
  have KU := Lib.hid (use_off h)
  have hd := h.d0
  clear h
  go_enter Tryz.func53, Tryz.ntmps53
  go_wp2_with fail
  refine KU.out.mono ?_
  rintro x w1 ⟨rfl, rfl⟩
  go_wp2
  go_ret
  exact ⟨rfl, rfl⟩
theorem sectors_nil (W : World) : Calls Tryz.prog 52 #[.pointer none] W fun e w' => e = .returned (.int .i64 0) ∧ W = w' := by
  go_enter Tryz.func52, Tryz.ntmps52
  go_wp2
  go_ret
  exact ⟨rfl, rfl⟩
end
def WriteYes (W : World) (D P L M n k : Nat) (uses : Int) (armed : Bool) (left : Int) (las : List (List UInt8)) (f : Int → Option (List UInt8)) (i : Int) (l : List UInt8) (e : Ending) (w' : World) : Prop :=
  e = .returned (.int .i64 0) ∧ DevAt w' D P L M n (k + 1) false (uses + 1) armed (nl armed left) las (upd f i (some (pad l))) ∧ Fr3 P L M W w'
set_option linter.unusedSimpArgs false in
set_option maxRecDepth 100000 in
set_option maxHeartbeats 2000000 in
theorem write_yes {W : World} {D P L M n k : Nat} {uses : Int} {armed : Bool} {left : Int} {las : List (List UInt8)} {f : Int → Option (List UInt8)} (h : DevAt W D P L M n k false uses armed left las f) (hu : 0 ≤ uses ∧ uses ≤ 1000000000) (hl : armed = true → 0 < left ∧ left ≤ 4611686018427387904) (hk : k ≤ 1000000)
    (i : Int) (hi : 0 ≤ i ∧ i < (n : Int)) (hn : n ≤ 4096) (sa : Option Addr) (ss : List ByteArray) (c : Nat) (hs : ss.length ≤ 1000000) (hsa' : StrsAt (useW P uses armed left W) sa ss) (hz : ∀ i, (ss.getD i ByteArray.empty).size ≤ 140737488355328) (hfit : (joined ss).length ≤ 64) :
    Calls Tryz.prog 53 #[.pointer (some ⟨D, 0, none⟩), .int .i64 i, .slice sa ss.length c] W (WriteYes W D P L M n k uses armed left las f i (joined ss)) := by
  have KU := Lib.hid (use_yes h hu hl)
  have hd := h.d0
  have h' := useW_dev h
  obtain ⟨W1, hW1⟩ : ∃ W1, W1 = useW P uses armed left W := ⟨_, rfl⟩
  rw [← hW1] at h' hsa' KU
  have hb1 : Fr3 P L M W W1 := by rw [hW1]; exact useW_fr _ _ _ _
  clear hW1
  have KL := Lib.hid (lay_any sa ss c W1 hs hsa' hz)
  obtain ⟨C, hC⟩ : ∃ C, C = (secC (pad (joined ss))).toArray := ⟨_, rfl⟩
  have hlv : layV ss = .tuple #[.agg C, .bool true] := by unfold layV; rw [if_pos hfit, hC]; rfl
  rw [hlv] at KL
  have z3 : (Tryz.prog.info? 129).map (·.size) = some C.size := by rw [hC]; exact sec_info hfit
  have z1 : zeroC.size = C.size := by
    have e : C.size = 64 := by rw [hC, List.size_toArray, secC_len, pad_len hfit]
    rw [e]; rfl
  have z2 : C.all (·.oneCell') = true := by rw [hC]; exact secV_one _
  have HC := Lib.hid hC
  clear hC hlv
  go_enter Tryz.func53, Tryz.ntmps53
  go_wp2_with fail
  refine KU.out.mono ?_
  rintro x w1 ⟨rfl, rfl⟩
  go_wp2_with fail
  refine KL.out.mono ?_
  rintro x w2 ⟨rfl, hb2⟩
  have h2 := h'.below hb2
  have hb3 : Fr3 P L M W w2 := hb1.trans (Fr3.of_below hb2)
  clear hb2 h' hsa' KU KL
  go_wp2_with (first
    | (refine wpList_store_row rfl 129 _ _ rfl w2.heap.size C rfl rfl 129 zeroC (hp_new rfl) z3 z1 z2 ?_; rw [World.setRow_alloc_new])
    | fail)
  have h3 := h2.below ((Below.refl _ _).alloc (o := .cells C 129) (Nat.le_refl _))
  have hH : hasB n i = true := by unfold hasB; rw [decide_eq_true hi.1, decide_eq_true hi.2]; rfl
  have KH := Lib.hid (has_any h3 i)
  rw [hH] at KH
  refine KH.out.mono ?_
  rintro x W3 ⟨rfl, hW3⟩
  rw [hW3] at h3
  have hrow : W3.heap[w2.heap.size]? = some (.cells C 129 (0, 0)) := by rw [← hW3]; exact hp_new rfl
  have hb4 : Fr3 P L M W W3 := by rw [← hW3]; exact hb3.trans (Fr3.of_below ((Below.refl _ _).alloc (Nat.le_refl _) _))
  have h5 := h3.below (W' := W3.drew) ((Below.refl _ _).drew)
  have hsc : C.size = 64 := by rw [HC.out, List.size_toArray, secC_len, pad_len hfit]
  have kld : (Instr.loadAt 129 (.pointer (some ⟨w2.heap.size, 0, none⟩))).run Tryz.prog W3.drew = .ok (.agg C) W3.drew := by
    simp only [Instr.loadAt, Instr.sureAddr, Sem.run_bind, Sem.run_pure, Result.andThen_ok]
    exact run_loadVar_row _ w2.heap.size 129 129 C (0, 0) _ hrow Tryz.underlying129 rfl z3
  obtain ⟨W4, kst, hm4, hg4⟩ := h5.mp.store i (by have := hi.1; have := hi.2; exact WalkArith.wf_i64 (by omega)) (pad (joined ss)) (pad_len hfit) (by unfold maxLen; omega)
  have h6 := h5.map hg4 hm4
  have hb5 : Fr3 P L M W W4 := (hb4.trans (Fr3.of_below ((Below.refl _ _).drew))).trans (Fr3.of_grown hg4 (fun _ e => by injection e with e; exact .inr (.inr e.symm)))
  rw [show secV (pad (joined ss)) = .agg C by rw [HC.out]; rfl] at kst
  have hd2 := h5.d2
  have H6 := Lib.hid h6
  have hd4 := h6.d2
  have hrg : W3.drew.rangeAt w2.heap.size 0 C.toList := fun j v hv => by
    rw [Nat.zero_add, cell_of_row W3.drew w2.heap.size j C _ _ hrow]; simpa using hv
  have hMb : M ≠ w2.heap.size := by have := h2.mp; obtain ⟨_, hM, _⟩ := this; have := hM.lt; omega
  have hrg4 : W4.rangeAt w2.heap.size 0 C.toList := fun j v hv => cell_apart hg4 (fun e => hMb e.symm) (hrg j v hv)
  clear h2 h3 hW3 hb3 hb4 h5 hm4 hg4 h6 hb1 z1 z2 HC KH
  go_wp2_with fail
  refine wp_region_held_drew (S := (fun w' => w'.cell? ⟨D, 2, none⟩ = some (.map (some M)) ∧ w'.rangeAt w2.heap.size 0 C.toList)) (by kernel_rfl) ?_ (fun hHeld => ?_)
  · (try dsimp only); exact ⟨(by first | exact hd2 | exact hd4), (by first | exact hrg | exact hrg4)⟩
  refine wpAnyH_take (i := 0) (v := ?_) rfl (by kernel_rfl) (by kernel_rfl) (by kernel_rfl) (fun _ _ _ h => h) (Or.inl ⟨by rfl, ?_⟩) (by assumption) ?_
  rotate_left 1
  · (intro w' hSw; (try dsimp only at hSw); go_simp; try (with_reducible rfl))
  try simp only [Act.put, List.setIfInBounds_toArray, List.set_cons_zero, List.set_cons_succ]
  refine wpAnyH_take (i := 1) (v := ?_) rfl (by kernel_rfl) (by kernel_rfl) (by kernel_rfl) (fun _ _ _ h => h) (Or.inl ⟨by rfl, ?_⟩) (by assumption) ?_
  rotate_left 1
  · (intro w' hSw; (try dsimp only at hSw); go_simp; try (with_reducible rfl))
  try simp only [Act.put, List.setIfInBounds_toArray, List.set_cons_zero, List.set_cons_succ]
  refine wpAnyH_take (i := 2) (v := ?_) rfl (by kernel_rfl) (by kernel_rfl) (by kernel_rfl) (fun _ _ _ h => h) (Or.inl ⟨by rfl, ?_⟩) (by assumption) ?_
  rotate_left 1
  · (intro w' hSw; (try dsimp only at hSw); go_simp; try (with_reducible rfl))
  try simp only [Act.put, List.setIfInBounds_toArray, List.set_cons_zero, List.set_cons_succ]
  refine wpAnyH_take (i := 3) (v := ?_) rfl (by kernel_rfl) (by kernel_rfl) (by kernel_rfl) (fun _ _ _ h => h) (Or.inl ⟨by rfl, ?_⟩) (by assumption) ?_
  rotate_left 1
  · (intro w' hSw; (try dsimp only at hSw); go_simp; try (with_reducible rfl))
  try simp only [Act.put, List.setIfInBounds_toArray, List.set_cons_zero, List.set_cons_succ]
  refine wpAnyH_take (i := 4) (v := ?_) rfl (by kernel_rfl) (by kernel_rfl) (by kernel_rfl) (fun _ _ _ h => h) (Or.inl ⟨by rfl, ?_⟩) (by assumption) ?_
  rotate_left 1
  · (intro w' hSw; (try dsimp only at hSw); go_simp; try (with_reducible rfl))
  try simp only [Act.put, List.setIfInBounds_toArray, List.set_cons_zero, List.set_cons_succ]
  refine wpAnyH_take (i := 5) (v := .agg C.toList.toArray) rfl (by kernel_rfl) (by kernel_rfl) (by kernel_rfl) (fun _ _ _ h => h) (yieldsIf_load_mid (by rfl) 129 _ rfl w2.heap.size 0 rfl C.toList _ (fun w hw => hw.2) Tryz.underlying129 rfl (by rw [Array.length_toList]; exact z3)) (by assumption) ?_
  simp only [Act.put, List.setIfInBounds_toArray, Array.toArray_toList, List.set_cons_zero, List.set_cons_succ]
  refine wpAnyH_ready (rs := [6]) (by kernel_rfl) (by simp) ?_
  refine AllReadyH.cons rfl (fun K hK => ?_) AllReadyH.nil
  go_simp
  refine hK.out _ _ ?_ (fun hHeld => ?_)
  · (try dsimp only); exact ⟨(by first | exact hd2 | exact hd4), (by first | exact hrg | exact hrg4)⟩
  clear hK K
  refine wpAnyH_done (by kernel_rfl) ?_ _
  go_wp2
  go_ret
  exact ⟨rfl, H6.out, hb5⟩
/-- A write that writes nothing: no such sector, or more than it holds. -/
def WriteNon (W : World) (D P L M n k : Nat) (uses : Int) (armed : Bool) (left : Int) (las : List (List UInt8)) (f : Int → Option (List UInt8)) (e : Ending) (w' : World) : Prop :=
  e = .returned (.int .i64 1) ∧ DevAt w' D P L M n k false (uses + 1) armed (nl armed left) las f ∧ Fr3 P L M W w'
set_option linter.unusedSimpArgs false in
set_option maxRecDepth 100000 in
set_option maxHeartbeats 2000000 in
theorem write_non {W : World} {D P L M n k : Nat} {uses : Int} {armed : Bool} {left : Int} {las : List (List UInt8)} {f : Int → Option (List UInt8)} (h : DevAt W D P L M n k false uses armed left las f) (hu : 0 ≤ uses ∧ uses ≤ 1000000000) (hl : armed = true → 0 < left ∧ left ≤ 4611686018427387904)
    (i : Int) (sa : Option Addr) (ss : List ByteArray) (c : Nat) (hs : ss.length ≤ 1000000) (hsa' : StrsAt (useW P uses armed left W) sa ss) (hz : ∀ i, (ss.getD i ByteArray.empty).size ≤ 140737488355328) (hno : 64 < (joined ss).length ∨ hasB n i = false) :
    Calls Tryz.prog 53 #[.pointer (some ⟨D, 0, none⟩), .int .i64 i, .slice sa ss.length c] W (WriteNon W D P L M n k uses armed left las f) := by
  have KU := Lib.hid (use_yes h hu hl)
  have hd := h.d0
  have h' := useW_dev h
  obtain ⟨W1, hW1⟩ : ∃ W1, W1 = useW P uses armed left W := ⟨_, rfl⟩
  rw [← hW1] at h' hsa' KU
  have hb1 : Fr3 P L M W W1 := by rw [hW1]; exact useW_fr _ _ _ _
  clear hW1
  have KL := Lib.hid ((lay_any sa ss c W1 hs hsa' hz).mono fun e w' hh => (⟨hh.1, Lib.hid (h'.below hh.2), Lib.hid (hb1.trans (Fr3.of_below hh.2))⟩ : e = .returned (layV ss) ∧ Hid (DevAt w' D P L M n k false (uses + 1) armed (nl armed left) las f) ∧ Hid (Fr3 P L M W w')))
  have hV : ∃ (l0 : List UInt8) (b : Bool), l0.length = 64 ∧ layV ss = .tuple #[.agg (secC l0).toArray, .bool b] ∧ (b = true → hasB n i = false) := by
    unfold layV
    by_cases h : (joined ss).length ≤ 64
    · rw [if_pos h]
      refine ⟨_, true, pad_len h, rfl, fun _ => ?_⟩
      rcases hno with hno | hno
      · omega
      · exact hno
    · rw [if_neg h]; exact ⟨_, false, pad_len (by decide), rfl, fun e => by cases e⟩
  obtain ⟨l0, b, hl0, hlv, hbn⟩ := hV
  rw [hlv] at KL
  have hC64 : (secC l0).toArray.size = 64 := by rw [List.size_toArray, secC_len, hl0]
  have z2 : (secC l0).toArray.all (·.oneCell') = true := secV_one _
  generalize (secC l0).toArray = C at KL hC64 z2
  have z3 : (Tryz.prog.info? 129).map (·.size) = some C.size := by rw [hC64]; exact (zero_of_info infoK).2
  have z1 : zeroC.size = C.size := by rw [hC64]; rfl
  clear hlv hl0 hC64 h' hsa' hb1
  cases b with
  | true =>
    have hH := hbn rfl
    clear hbn hno
    go_enter Tryz.func53, Tryz.ntmps53
    go_wp2_with fail
    refine KU.out.mono ?_
    rintro x w1 ⟨rfl, rfl⟩
    go_wp2_with fail
    refine KL.out.mono ?_
    rintro x w2 ⟨rfl, hd2, hf2⟩
    have hd3 := Lib.hid (hd2.out.below ((Below.refl _ _).alloc (o := .cells C 129) (Nat.le_refl _)))
    have hf3 := Lib.hid (hf2.out.trans (Fr3.of_below ((Below.refl _ _).alloc (o := .cells C 129) (Nat.le_refl _))))
    have KH := Lib.hid (has_any hd3.out i)
    rw [hH] at KH
    clear hd2 hf2
    go_wp2_with (first
      | (refine wpList_store_row rfl 129 _ _ rfl w2.heap.size C rfl rfl 129 zeroC (hp_new rfl) z3 z1 z2 ?_; rw [World.setRow_alloc_new])
      | fail)
    refine KH.out.mono ?_
    rintro x w3 ⟨rfl, rfl⟩
    go_wp2
    go_ret
    exact ⟨rfl, hd3.out, hf3.out⟩
  | false =>
    clear hbn hno
    go_enter Tryz.func53, Tryz.ntmps53
    go_wp2_with fail
    refine KU.out.mono ?_
    rintro x w1 ⟨rfl, rfl⟩
    go_wp2_with fail
    refine KL.out.mono ?_
    rintro x w2 ⟨rfl, hd2, hf2⟩
    have hd3 := Lib.hid (hd2.out.below ((Below.refl _ _).alloc (o := .cells C 129) (Nat.le_refl _)))
    have hf3 := Lib.hid (hf2.out.trans (Fr3.of_below ((Below.refl _ _).alloc (o := .cells C 129) (Nat.le_refl _))))
    clear hd2 hf2
    go_wp2_with (first
      | (refine wpList_store_row rfl 129 _ _ rfl w2.heap.size C rfl rfl 129 zeroC (hp_new rfl) z3 z1 z2 ?_; rw [World.setRow_alloc_new])
      | fail)
    go_ret
    exact ⟨rfl, hd3.out, hf3.out⟩
def SyncYes (W : World) (D P L M n k : Nat) (uses : Int) (armed : Bool) (left : Int) (las : List (List UInt8)) (f : Int → Option (List UInt8)) (e : Ending) (w' : World) : Prop :=
  e = .returned (.int .i64 0) ∧ ∃ las2, DevAt w' D P L M n k false (uses + 1) armed (nl armed left) las2 (fun _ => none) ∧ (∀ j : Nat, j < n → las2.getD j blank64 = secAt las f j) ∧ Fr3 P L M W w'
structure SyY (W wr : World) (D P L M n k R : Nat) (uses : Int) (armed : Bool) (left : Int) (las las' : List (List UInt8)) (f : Int → Option (List UInt8)) (D0 : DataW Unit) (lf : Lit → Bool) (cnt : Nat) : Prop where
  dev : DevAt wr D P L M n k false uses armed left las' f
  rg : wr.ranges Tryz.prog 3 (secR (H := Unit)) M R k D0 lf cnt
  sy : SyP n las las' f lf
  fr : Fr3 P L M W wr
set_option linter.unusedSimpArgs false in
set_option maxRecDepth 100000 in
set_option maxHeartbeats 4000000 in
theorem sync_yes {W : World} {D P L M n k : Nat} {uses : Int} {armed : Bool} {left : Int} {las : List (List UInt8)} {f : Int → Option (List UInt8)} (h : DevAt W D P L M n k false uses armed left las f) (hu : 0 ≤ uses ∧ uses ≤ 1000000000) (hl : armed = true → 0 < left ∧ left ≤ 4611686018427387904)
    (hf : ∀ z l, f z = some l → 0 ≤ z ∧ z < (n : Int) ∧ l.length = 64) :
    Calls Tryz.prog 54 #[.pointer (some ⟨D, 0, none⟩)] W (SyncYes W D P L M n k uses armed left las f) := by
  have KU := Lib.hid (use_yes h hu hl)
  have hd := h.d0
  have h' := useW_dev h
  have HF := Lib.hid hf; clear hf
  have HW1 := Lib.hid (useW_fr (P := P) (L := L) (M := M) W uses armed left)
  obtain ⟨W1, hW1⟩ : ∃ W1, W1 = useW P uses armed left W := ⟨_, rfl⟩
  rw [← hW1] at h' KU HW1
  clear hW1 h
  have hd2 := h'.d2
  obtain ⟨D0, hown, hmi⟩ := h'.mp
  have HMI := Lib.hid hmi
  have H1 := Lib.hid h'
  have hLs := blk_lt h'.lb
  have hMs := hown.lt
  clear hmi h'
  go_enter Tryz.func54, Tryz.ntmps54
  go_wp2_with fail
  refine KU.out.mono ?_
  rintro x w1 ⟨rfl, rfl⟩
  go_wp2_with (first
    | (at_range; refine wpList_range_own _ rfl _ 102 rfl 3 129 keyLaw Tryz.underlying102 (secR (H := Unit)) M k D0 rfl hown ?_; intro w0 hrg0 hg0 hs0)
    | fail)
  go_frame
  have S0 : Hid (SyY W w0 D P L M n k w1.heap.size (uses + 1) armed (nl armed left) las las f D0 (Maps.has D0) (Maps.size D0)) :=
    ⟨H1.out.below ⟨hg0.os, hg0.tape, hg0.output, hg0.size, fun j hj => hg0.block j hj (by simp)⟩, hrg0, SyP.start n las HMI.out, HW1.out.trans (Fr3.of_grown hg0 (fun _ e => by cases e))⟩
  have hRL : L ≠ w1.heap.size := by omega
  have hRM : M ≠ w1.heap.size := by omega
  have hRs : w1.heap.size < w0.heap.size := by omega
  have hR := Nat.le_refl w1.heap.size
  clear hg0 hs0 hrg0 H1 hLs hMs hown hd2 hd KU
  have HG0 : Hid (Fr3 P L M W w1 ∧ w1.heap.size ≤ w1.heap.size) := ⟨HW1.out, hR⟩
  have HWS := Lib.hid HW1.out.size
  clear HG0 HW1 hR
  generalize w1.heap.size = R at *
  go_loopw [3] (fun _ wr => ∃ (las' : List (List UInt8)) (lf : Lit → Bool) (cnt : Nat), Hid (SyY W wr D P L M n k R (uses + 1) armed (nl armed left) las las' f D0 lf cnt)) (fun _ wr => wr.rangeLeft M R)
  case atStart => exact ⟨las, _, _, S0⟩
  case round =>
    obtain ⟨las', lf, cnt, st⟩ := hrel
    clear S0 hRs
    have hrg := Lib.hid st.out.rg
    have hle := st.out.rg.left_eq
    go_wp2_with (first
      | (at_next; refine wpList_next_ranges _ rfl _ rfl 3 keyLaw (secR (H := Unit)) (Value.int .i64) secV (fun key kl hkey => by obtain ⟨x, rfl, _⟩ := Maps.keyOf_int_inv Tryz.underlying3 hkey; exact ⟨x, rfl⟩) (fun v y hv => by obtain ⟨l, _, rfl, _⟩ := secR_inv hv; exact ⟨l, rfl⟩) M R k D0 lf cnt rfl hrg.out ?_ ?_)
      | fail)
    · intro hc0 hl0
      have SD := Lib.hid (st.out.sy.done hl0)
      obtain ⟨w2, hwipe, hm2, hg2⟩ := st.out.dev.mp.wipe 0
      have hdev2 := Lib.hid (st.out.dev.map hg2 hm2)
      have hfr2 := Lib.hid (st.out.fr.trans (Fr3.of_grown hg2 (fun _ e => by injection e with e; exact .inr (.inr e.symm))))
      have e2 := st.out.dev.d2
      clear st hrg hle hm2 hg2
      go_wp2
      go_ret
      exact ⟨rfl, las', hdev2.out, SD.out, hfr2.out⟩
    · intro x c kl y1 y2 w2 cnt1 hkey hlk hv hat hrg1 hlt hg1 hs1 hen
      obtain ⟨rfl, hfx, hc64⟩ := came HMI.out hkey hv hat
      obtain ⟨q0, q1, _⟩ := HF.out x c hfx
      obtain ⟨q, rfl⟩ := Int.eq_ofNat_of_zero_le q0
      have hqn : q < n := by omega
      have SS := Lib.hid (st.out.sy.step hqn st.out.dev.ll hfx)
      obtain ⟨C, hC⟩ : ∃ C, C = (secC c).toArray := ⟨_, rfl⟩
      have hCV : secV c = .agg C := by rw [hC]; rfl
      rw [hCV] at hen
      have hC64 : C.size = 64 := by rw [hC, List.size_toArray, secC_len, hc64]
      have z2 : C.all (·.oneCell') = true := by rw [hC]; exact secV_one _
      have z3 : (Tryz.prog.info? 129).map (·.size) = some C.size := by rw [hC64]; exact (zero_of_info infoK).2
      have z1 : zeroC.size = C.size := by rw [hC64]; rfl
      -- the iterator was turned: the device is as it was
      have hd1 : DevAt w2 D P L M n k false (uses + 1) armed (nl armed left) las' f := by
        have h0 := st.out.dev
        have hDR : D ≠ R := fun e => by
          have := h0.d0
          have hr := st.out.rg
          obtain ⟨_, _, _, _, _, _, _, _, _, hi, _⟩ := hr
          rw [e] at this
          simp [World.cell?, hi] at this
        have hPR : P ≠ R := fun e => by
          have := h0.p0
          obtain ⟨_, _, _, _, _, _, _, _, _, hi, _⟩ := st.out.rg
          rw [e] at this
          simp [World.cell?, hi] at this
        exact { d0 := cell_apart hg1 hDR h0.d0, d1 := cell_apart hg1 hDR h0.d1, d2 := cell_apart hg1 hDR h0.d2, p0 := cell_apart hg1 hPR h0.p0, p1 := cell_apart hg1 hPR h0.p1, p2 := cell_apart hg1 hPR h0.p2, p3 := cell_apart hg1 hPR h0.p3,
                pf := fun i => (World.frozen?_of_block (hg1.block P (block_lt (p := ⟨P, 0, none⟩) h0.p0) (fun e => hPR (by injection e)))).trans (h0.pf i),
                lb := (hg1.block L (blk_lt h0.lb) (fun e => hRL (by injection e))).trans h0.lb, ll := h0.ll, l64 := h0.l64, mp := h0.mp.kept hg1 (fun e => hRM (by injection e)), dp := h0.dp, dl := h0.dl, dm := h0.dm, pl := h0.pl, pm := h0.pm, lm := h0.lm }
      have hfr1 : Fr3 P L M W w2 := st.out.fr.new hg1 HWS.out
      have hrg2 := hrg1.alloc (.cells C 129)
      have hdev2 := hd1.below ((Below.refl _ _).alloc (o := .cells C 129) (Nat.le_refl _))
      have hfr2 : Fr3 P L M W (w2.alloc (.cells C 129)) := hfr1.trans (Fr3.of_below ((Below.refl _ _).alloc (Nat.le_refl _) _))
      have hrg3 := hrg2.kept (w' := (w2.alloc (.cells C 129)).drew) (row := none) ⟨rfl, rfl, rfl, Nat.le_refl _, fun _ _ _ => rfl⟩ (by simp) (by simp)
      have hdev3 := hdev2.below (W' := (w2.alloc (.cells C 129)).drew) ((Below.refl _ _).drew)
      have hfr3 : Fr3 P L M W (w2.alloc (.cells C 129)).drew := hfr2.trans (Fr3.of_below ((Below.refl _ _).drew))
      have kst := hdev3.store q hqn c hc64
      rw [← hC] at kst
      have hg4 := setRow_grown ((w2.alloc (.cells C 129)).drew) L (lasC (las'.set q c)).toArray
      have hrg4 := hrg3.kept hg4 (fun e => by injection e with e; exact hd1.lm e.symm) (fun e => by injection e with e; exact hRL e.symm)
      have hdev4 := hdev3.setLas q c hc64
      have hfr4 := hfr3.trans (Fr3.of_grown hg4 (fun _ e => by injection e with e; exact .inr (.inl e.symm)))
      have e1 := hdev3.d1
      have hrow : (w2.alloc (.cells C 129)).drew.heap[w2.heap.size]? = some (.cells C 129 (0, 0)) := hp_new rfl
      have hrgA : (w2.alloc (.cells C 129)).drew.rangeAt w2.heap.size 0 C.toList := fun i v hv => by
        rw [Nat.zero_add, cell_of_row _ w2.heap.size i C _ _ hrow]; simpa using hv
      have ST2 := Lib.hid (SyY.mk hdev4 hrg4 SS.out hfr4)
      have HM := Lib.hid (hrg4.left_eq)
      have hlt2 : cnt1 < cnt := hlt
      generalize (lasC (las'.set q c)).toArray = LC at kst ST2 HM
      have hq1 : (q : Int) < (n : Int) := by omega
      have hq0 : (0 : Int) ≤ (q : Int) := by omega
      have ed1 : w2.cell? ⟨D, 1, none⟩ = some (.slice (some ⟨L, 0, none⟩) n n) := hd1.d1
      clear st hrg hrg1 hrg2 hrg3 hrg4 hdev2 hdev3 hdev4 hd1 hfr1 hfr2 hfr3 hfr4 SS hg1 hs1 hkey hlk hv hat hfx hC hCV hg4 hrow q0 q1 hlt hc64
      go_wp2_with (first
        | (refine wpList_store_row rfl 129 _ _ rfl w2.heap.size C rfl rfl 129 zeroC (hp_new rfl) z3 z1 z2 ?_; rw [World.setRow_alloc_new])
        | fail)
      refine wp_region_still_tail 6 (by kernel_rfl) (by kernel_rfl) ?_
      simp only [List.take_succ_cons, List.take_zero, List.drop_succ_cons, List.drop_zero]
      generalize hwd : (w2.alloc (.cells C 129)).drew = wd at *
      change wpStill _ _ ((w2.alloc (.cells C 129)).drew) (fun _ => wpList _ _ _ _ _ ((w2.alloc (.cells C 129)).drew)) _ _
      rw [hwd]
      still_step
      still_step
      still_step
      still_step
      still_step
      refine wpStill_load_row (by rfl) 129 _ rfl w2.heap.size 0 rfl C.toList _ hrgA Tryz.underlying129 rfl (by rw [Array.length_toList]; exact z3) ?_
      simp only [Array.toArray_toList]
      refine wpStill_nil ?_
      go_wp2_with (first
        | (refine wpList_store_eq rfl 129 _ _ rfl rfl rfl kst ?_; go_frame)
        | fail)
      go_roundw
      case rel => exact ⟨_, _, cnt1, ST2⟩
      case measure => rw [HM.out, hle]; exact hlt2
section
variable {W : World} {D P L M n k : Nat} {uses left : Int} {las : List (List UInt8)} {f : Int → Option (List UInt8)}
theorem write_last (h : DevAt W D P L M n k false uses true 0 las f) (hu : 0 ≤ uses ∧ uses ≤ 1000000000) (i : Int) (v : Value) :
    Calls Tryz.prog 53 #[.pointer (some ⟨D, 0, none⟩), .int .i64 i, v] W fun e w' => e = .returned (.int .i64 6) ∧ DevAt w' D P L M n k true (uses + 1) true (-1) las f ∧ Fr3 P L M W w' := by
  have KU := Lib.hid (use_last h hu)
  have hd := h.d0
  clear h
  go_enter Tryz.func53, Tryz.ntmps53
  go_wp2_with fail
  refine KU.out.mono ?_
  rintro x w1 ⟨rfl, hd1, hf1⟩
  have HD := Lib.hid hd1
  have HF := Lib.hid hf1
  clear hd1 hf1 hd KU
  go_wp2
  go_ret
  exact ⟨rfl, HD.out, HF.out⟩
end
theorem keepLas_len (f : Int → Option (List UInt8)) (ks : List Int) : ∀ las : List (List UInt8), (keepLas f las ks).length = las.length := by
  unfold keepLas
  induction ks with
  | nil => intro las; rfl
  | cons z ks ih =>
    intro las
    rw [List.foldl_cons, ih]
    cases f z with
    | none => rfl
    | some l => exact List.length_set
/-- What a crash keeps: those sectors that are told, as they were written last. -/
theorem keepLas_getD {f : Int → Option (List UInt8)} {n : Nat} (hf : ∀ z l, f z = some l → 0 ≤ z ∧ z < (n : Int) ∧ l.length = 64) (ks : List Int) : ∀ (las : List (List UInt8)), las.length = n → ∀ j : Nat, j < n →
    (keepLas f las ks).getD j blank64 = if (ks.any fun z => z == (j : Int)) = true then secAt las f j else las.getD j blank64 := by
  induction ks with
  | nil => intro las _ j _; rfl
  | cons z ks ih =>
    intro las hl j hj
    have hst : keepLas f las (z :: ks) = keepLas f (match f z with
      | some l => las.set z.toNat l
      | none => las) ks := rfl
    rw [hst]
    cases hfz : f z with
    | none =>
      show (keepLas f las ks).getD j blank64 = _
      rw [ih las hl j hj, List.any_cons]
      by_cases e : z = (j : Int)
      · have h1 : (z == (j : Int)) = true := by rw [beq_iff_eq]; exact e
        rw [h1, Bool.true_or, if_pos rfl]
        unfold secAt
        rw [← e, hfz]
        split <;> rfl
      · have h1 : (z == (j : Int)) = false := by rw [beq_eq_false_iff_ne]; exact e
        rw [h1, Bool.false_or]
    | some l =>
      obtain ⟨q0, q1, q2⟩ := hf z l hfz
      obtain ⟨q, rfl⟩ := Int.eq_ofNat_of_zero_le q0
      show (keepLas f (las.set (q : Int).toNat l) ks).getD j blank64 = _
      rw [ih _ (by rw [List.length_set]; exact hl) j hj, List.any_cons, Int.toNat_natCast]
      have hg : (las.set q l).getD j blank64 = if j = q then l else las.getD j blank64 := by
        simp only [List.getD_eq_getElem?_getD, List.getElem?_set]
        by_cases e : q = j
        · subst e; simp [hl, hj]
        · rw [if_neg e, if_neg (fun x => e x.symm)]
      have hs : secAt (las.set q l) f j = secAt las f j := by
        unfold secAt
        cases hfj : f (j : Int) with
        | some m => rfl
        | none =>
          have : j ≠ q := fun e => by rw [e] at hfj; rw [hfj] at hfz; cases hfz
          show (las.set q l).getD j blank64 = las.getD j blank64
          rw [hg, if_neg this]
      rw [hs, hg]
      by_cases e : j = q
      · subst e
        have h1 : ((j : Int) == (j : Int)) = true := by rw [beq_iff_eq]
        have h2 : secAt las f j = l := by unfold secAt; rw [hfz]
        rw [h1, Bool.true_or, if_pos rfl, if_pos rfl, h2]
        split <;> rfl
      · have h1 : ((q : Int) == (j : Int)) = false := by rw [beq_eq_false_iff_ne]; omega
        rw [h1, Bool.false_or, if_neg e]
end Go.Proofs.YtkemhkmabbladaaGreatDoor.Dv
