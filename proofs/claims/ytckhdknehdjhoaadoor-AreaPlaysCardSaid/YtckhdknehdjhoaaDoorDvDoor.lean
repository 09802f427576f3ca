/-
  WHAT IS NEEDED OF THE DEVICE'S TEXTS, AS FAR AS THIS SEAT HAS ITS FUNCTIONS (put together by wip/only-there.py).
-/
import Derived.Test.YtckhdknehdjhoaaDoorDvFr
import Derived.Maps.RangeWalk
import Derived.Maps.AppendAt
import Derived.Laws.OwnMore
namespace Go.Proofs.YtckhdknehdjhoaaDoor
open Go.RowKit
section
variable {W : World} {D P L M n k : Nat} {off : Bool} {uses : Int} {armed : Bool} {left : Int} {las : List (List UInt8)} {f : Int → Option (List UInt8)}
/-- The state of Crash's loop. -/
structure CrSt (B : Nat) (W wr : World) (D P L M n k : Nat) (off : Bool) (uses : Int) (armed : Bool) (left : Int) (las : List (List UInt8)) (f : Int → Option (List UInt8)) : Prop where
  dev : DevAt wr D P L M n k off uses armed left las f
  bel : Below B W wr
  gr : W.grownBy wr (some L)
def CrashPost (B : Nat) (W : World) (D P L M n k : Nat) (uses left : Int) (las : List (List UInt8)) (e : Ending) (w' : World) : Prop :=
  e = .returned (.tuple #[]) ∧ DevAt w' D P L M n k false uses false left las (fun _ => none) ∧ Below B W w'
def CrashFr (B : Nat) (W : World) (D P L M n k : Nat) (uses left : Int) (las : List (List UInt8)) (e : Ending) (w' : World) : Prop :=
  e = .returned (.tuple #[]) ∧ DevAt w' D P L M n k false uses false left las (fun _ => none) ∧ Below B W w' ∧ Fr3 P L M W w'
end
open Go.RowKit Go.Maps Go.ChangeMaps Go.MapKept Go.WideElems
/-- What lasts while sectors are made to last. -/
def SyP (n : Nat) (las las' : List (List UInt8)) (f : Int → Option (List UInt8)) (lf : Lit → Bool) : Prop :=
  ∀ j : Nat, j < n → las'.getD j blank64 = match f (j : Int) with
    | some l => if lf (.int .i64 (j : Int)) = true then las.getD j blank64 else l
    | none => las.getD j blank64
/-- A round of the range: what has come is a loose sector. -/
theorem came {D0 : DataW Unit} {f : Int → Option (List UInt8)} (hm : MapIs D0 f) {x : Int} {c : List UInt8} {kl : Lit} {y : DataW Unit × List MemPlace} (hk : keyOf Tryd.prog 3 (.int .i64 x) = some kl) (hv : secR (H := Unit) (secV c) = some y) (hat : ∀ zd, D0.atKey kl zd = y.1) :
    kl = .int .i64 x ∧ f x = some c ∧ c.length = 64 := by
  obtain ⟨x', e, rfl, _⟩ := Maps.keyOf_int_inv Tryd.underlying3 hk
  cases e
  obtain ⟨l, hl, e, rfl⟩ := secR_inv hv
  obtain rfl := secV_inj e
  obtain ⟨h1, h2⟩ := hm
  refine ⟨rfl, ?_, hl⟩
  cases hf : f x with
  | some m =>
    have h3 := h2 x m hf
    rw [hat] at h3
    simp only [DataW.lit.injEq, Lit.string.injEq] at h3
    rw [h3]
  | none =>
    have hn : has D0 (.int .i64 x) = false := by rw [h1 x, hf]; rfl
    have ha := atKey_of_not_has hn (.nil)
    rw [hat] at ha
    cases ha
theorem SyP.start (n : Nat) (las : List (List UInt8)) {D0 : DataW Unit} {f : Int → Option (List UInt8)} (hm : MapIs D0 f) : SyP n las las f (Maps.has D0) := fun j _ => by
  cases hf : f (j : Int) with
  | none => rfl
  | some l =>
    have : Maps.has D0 (.int .i64 (j : Int)) = true := by rw [hm.1, hf]; rfl
    show _ = if _ then _ else _
    rw [if_pos this]
theorem SyP.step {n : Nat} {las las' : List (List UInt8)} {f : Int → Option (List UInt8)} {lf : Lit → Bool} (h : SyP n las las' f lf) {q : Nat} {c : List UInt8} (hq : q < n) (hl : las'.length = n) (hf : f (q : Int) = some c) :
    SyP n las (las'.set q c) f (fun z => lf z && !z.sameKey (.int .i64 (q : Int))) := fun j hj => by
  have hg : (las'.set q c).getD j blank64 = if j = q then c else las'.getD j blank64 := by
    simp only [List.getD_eq_getElem?_getD, List.getElem?_set]
    by_cases e : q = j
    · subst e; simp [hl, hq]
    · rw [if_neg e, if_neg (fun x => e x.symm)]
  rw [hg]
  by_cases e : j = q
  · subst e
    rw [if_pos rfl, hf]
    have : (Lit.int .i64 (j : Int)).sameKey (.int .i64 (j : Int)) = true := by simp [Lit.sameKey]
    simp [this]
  · rw [if_neg e, h j hj]
    have : (Lit.int .i64 (j : Int)).sameKey (.int .i64 (q : Int)) = false := by
      simp [Lit.sameKey]; omega
    simp [this]
theorem SyP.done {n : Nat} {las las' : List (List UInt8)} {f : Int → Option (List UInt8)} {lf : Lit → Bool} (h : SyP n las las' f lf) (h0 : ∀ kl, lf kl = false) : ∀ j : Nat, j < n → las'.getD j blank64 = secAt las f j := fun j hj => by
  rw [h j hj]; unfold secAt
  cases f (j : Int) with
  | none => rfl
  | some l => simp [h0]
def SyncPost (W : World) (D P L M n k : Nat) (uses left : Int) (las : List (List UInt8)) (f : Int → Option (List UInt8)) (e : Ending) (w' : World) : Prop :=
  e = .returned (.int .i64 0) ∧ ∃ las2, DevAt w' D P L M n k false (uses + 1) false left las2 (fun _ => none) ∧ (∀ j : Nat, j < n → las2.getD j blank64 = secAt las f j) ∧ Fr3 P L M W w'
structure SyW (W wr : World) (D P L M n k R : Nat) (uses left : Int) (las las' : List (List UInt8)) (f : Int → Option (List UInt8)) (D0 : DataW Unit) (lf : Lit → Bool) (cnt : Nat) : Prop where
  dev : DevAt wr D P L M n k false uses false left las' f
  rg : wr.ranges Tryd.prog 3 (secR (H := Unit)) M R k D0 lf cnt
  sy : SyP n las las' f lf
  fr : Fr3 P L M W wr
set_option linter.unusedSimpArgs false in
set_option maxRecDepth 100000 in
set_option maxHeartbeats 4000000 in
theorem sync_any {W : World} {D P L M n k : Nat} {uses left : Int} {las : List (List UInt8)} {f : Int → Option (List UInt8)} (h : DevAt W D P L M n k false uses false left las f) (hu : 0 ≤ uses ∧ uses ≤ 1000000000)
    (hf : ∀ z l, f z = some l → 0 ≤ z ∧ z < (n : Int) ∧ l.length = 64) :
    Calls Tryd.prog 13 #[.pointer (some ⟨D, 0, none⟩)] W (SyncPost W D P L M n k uses left las f) := by
  have KU := Lib.hid (use_on h hu)
  have hd := h.d0
  have h' := (h.pow).2.1 (uses + 1)
  have HF := Lib.hid hf; clear hf
  have HW1 := Lib.hid (Fr3.setP (P := P) (L := L) (M := M) W 1 (.int .i64 (uses + 1)))
  obtain ⟨W1, hW1⟩ : ∃ W1, W1 = W.setCell ⟨P, 1, none⟩ (.int .i64 (uses + 1)) := ⟨_, rfl⟩
  rw [← hW1] at h' KU HW1
  clear hW1 h
  have hd2 := h'.d2
  obtain ⟨D0, hown, hmi⟩ := h'.mp
  have HMI := Lib.hid hmi
  have H1 := Lib.hid h'
  have hLs := blk_lt h'.lb
  have hMs := hown.lt
  clear hmi h'
  go_enter Tryd.func13, Tryd.ntmps13
  go_wp2_with fail
  refine KU.out.mono ?_
  rintro x w1 ⟨rfl, rfl⟩
  go_wp2_with (first
    | (at_range; refine wpList_range_own _ rfl _ 49 rfl 3 59 keyLaw Tryd.underlying49 (secR (H := Unit)) M k D0 rfl hown ?_; intro w0 hrg0 hg0 hs0)
    | fail)
  go_frame
  have S0 : Hid (SyW W w0 D P L M n k w1.heap.size (uses + 1) left las las f D0 (Maps.has D0) (Maps.size D0)) :=
    ⟨H1.out.below ⟨hg0.os, hg0.tape, hg0.output, hg0.size, fun j hj => hg0.block j hj (by simp)⟩, hrg0, SyP.start n las HMI.out, HW1.out.trans (Fr3.of_grown hg0 (fun _ e => by cases e))⟩
  have hRL : L ≠ w1.heap.size := by omega
  have hRM : M ≠ w1.heap.size := by omega
  have hRs : w1.heap.size < w0.heap.size := by omega
  have hR := Nat.le_refl w1.heap.size
  clear hg0 hs0 hrg0 H1 hLs hMs hown hd2 hd KU
  have HG0 : Hid (Fr3 P L M W w1 ∧ w1.heap.size ≤ w1.heap.size) := ⟨HW1.out, hR⟩
  have HWS := Lib.hid HW1.out.size
  clear HG0 HW1 hR
  generalize w1.heap.size = R at *
  go_loopw [3] (fun _ wr => ∃ (las' : List (List UInt8)) (lf : Lit → Bool) (cnt : Nat), Hid (SyW W wr D P L M n k R (uses + 1) left las las' f D0 lf cnt)) (fun _ wr => wr.rangeLeft M R)
  case atStart => exact ⟨las, _, _, S0⟩
  case round =>
    obtain ⟨las', lf, cnt, st⟩ := hrel
    clear S0 hRs
    have hrg := Lib.hid st.out.rg
    have hle := st.out.rg.left_eq
    go_wp2_with (first
      | (at_next; refine wpList_next_ranges _ rfl _ rfl 3 keyLaw (secR (H := Unit)) (Value.int .i64) secV (fun key kl hkey => by obtain ⟨x, rfl, _⟩ := Maps.keyOf_int_inv Tryd.underlying3 hkey; exact ⟨x, rfl⟩) (fun v y hv => by obtain ⟨l, _, rfl, _⟩ := secR_inv hv; exact ⟨l, rfl⟩) M R k D0 lf cnt rfl hrg.out ?_ ?_)
      | fail)
    · intro hc0 hl0
      have SD := Lib.hid (st.out.sy.done hl0)
      obtain ⟨w2, hwipe, hm2, hg2⟩ := st.out.dev.mp.wipe 0
      have hdev2 := Lib.hid (st.out.dev.map hg2 hm2)
      have hfr2 := Lib.hid (st.out.fr.trans (Fr3.of_grown hg2 (fun _ e => by injection e with e; exact .inr (.inr e.symm))))
      have e2 := st.out.dev.d2
      clear st hrg hle hm2 hg2
      go_wp2
      go_ret
      exact ⟨rfl, las', hdev2.out, SD.out, hfr2.out⟩
    · intro x c kl y1 y2 w2 cnt1 hkey hlk hv hat hrg1 hlt hg1 hs1 hen
      obtain ⟨rfl, hfx, hc64⟩ := came HMI.out hkey hv hat
      obtain ⟨q0, q1, _⟩ := HF.out x c hfx
      obtain ⟨q, rfl⟩ := Int.eq_ofNat_of_zero_le q0
      have hqn : q < n := by omega
      have SS := Lib.hid (st.out.sy.step hqn st.out.dev.ll hfx)
      obtain ⟨C, hC⟩ : ∃ C, C = (secC c).toArray := ⟨_, rfl⟩
      have hCV : secV c = .agg C := by rw [hC]; rfl
      rw [hCV] at hen
      have hC64 : C.size = 64 := by rw [hC, List.size_toArray, secC_len, hc64]
      have z2 : C.all (·.oneCell') = true := by rw [hC]; exact secV_one _
      have z3 : (Tryd.prog.info? 59).map (·.size) = some C.size := by rw [hC64]; exact (zero_of_info infoK).2
      have z1 : zeroC.size = C.size := by rw [hC64]; rfl
      -- the iterator was turned: the device is as it was
      have hd1 : DevAt w2 D P L M n k false (uses + 1) false left las' f := by
        have h0 := st.out.dev
        have hDR : D ≠ R := fun e => by
          have := h0.d0
          have hr := st.out.rg
          obtain ⟨_, _, _, _, _, _, _, _, _, hi, _⟩ := hr
          rw [e] at this
          simp [World.cell?, hi] at this
        have hPR : P ≠ R := fun e => by
          have := h0.p0
          obtain ⟨_, _, _, _, _, _, _, _, _, hi, _⟩ := st.out.rg
          rw [e] at this
          simp [World.cell?, hi] at this
        exact { d0 := cell_apart hg1 hDR h0.d0, d1 := cell_apart hg1 hDR h0.d1, d2 := cell_apart hg1 hDR h0.d2, p0 := cell_apart hg1 hPR h0.p0, p1 := cell_apart hg1 hPR h0.p1, p2 := cell_apart hg1 hPR h0.p2, p3 := cell_apart hg1 hPR h0.p3,
                pf := fun i => (World.frozen?_of_block (hg1.block P (block_lt (p := ⟨P, 0, none⟩) h0.p0) (fun e => hPR (by injection e)))).trans (h0.pf i),
                lb := (hg1.block L (blk_lt h0.lb) (fun e => hRL (by injection e))).trans h0.lb, ll := h0.ll, l64 := h0.l64, mp := h0.mp.kept hg1 (fun e => hRM (by injection e)), dp := h0.dp, dl := h0.dl, dm := h0.dm, pl := h0.pl, pm := h0.pm, lm := h0.lm }
      have hfr1 : Fr3 P L M W w2 := st.out.fr.new hg1 HWS.out
      have hrg2 := hrg1.alloc (.cells C 59)
      have hdev2 := hd1.below ((Below.refl _ _).alloc (o := .cells C 59) (Nat.le_refl _))
      have hfr2 : Fr3 P L M W (w2.alloc (.cells C 59)) := hfr1.trans (Fr3.of_below ((Below.refl _ _).alloc (Nat.le_refl _) _))
      have hrg3 := hrg2.kept (w' := (w2.alloc (.cells C 59)).drew) (row := none) ⟨rfl, rfl, rfl, Nat.le_refl _, fun _ _ _ => rfl⟩ (by simp) (by simp)
      have hdev3 := hdev2.below (W' := (w2.alloc (.cells C 59)).drew) ((Below.refl _ _).drew)
      have hfr3 : Fr3 P L M W (w2.alloc (.cells C 59)).drew := hfr2.trans (Fr3.of_below ((Below.refl _ _).drew))
      have kst := hdev3.store q hqn c hc64
      rw [← hC] at kst
      have hg4 := setRow_grown ((w2.alloc (.cells C 59)).drew) L (lasC (las'.set q c)).toArray
      have hrg4 := hrg3.kept hg4 (fun e => by injection e with e; exact hd1.lm e.symm) (fun e => by injection e with e; exact hRL e.symm)
      have hdev4 := hdev3.setLas q c hc64
      have hfr4 := hfr3.trans (Fr3.of_grown hg4 (fun _ e => by injection e with e; exact .inr (.inl e.symm)))
      have e1 := hdev3.d1
      have hrow : (w2.alloc (.cells C 59)).drew.heap[w2.heap.size]? = some (.cells C 59 (0, 0)) := hp_new rfl
      have hrgA : (w2.alloc (.cells C 59)).drew.rangeAt w2.heap.size 0 C.toList := fun i v hv => by
        rw [Nat.zero_add, cell_of_row _ w2.heap.size i C _ _ hrow]; simpa using hv
      have ST2 := Lib.hid (SyW.mk hdev4 hrg4 SS.out hfr4)
      have HM := Lib.hid (hrg4.left_eq)
      have hlt2 : cnt1 < cnt := hlt
      generalize (lasC (las'.set q c)).toArray = LC at kst ST2 HM
      have hq1 : (q : Int) < (n : Int) := by omega
      have hq0 : (0 : Int) ≤ (q : Int) := by omega
      have ed1 : w2.cell? ⟨D, 1, none⟩ = some (.slice (some ⟨L, 0, none⟩) n n) := hd1.d1
      clear st hrg hrg1 hrg2 hrg3 hrg4 hdev2 hdev3 hdev4 hd1 hfr1 hfr2 hfr3 hfr4 SS hg1 hs1 hkey hlk hv hat hfx hC hCV hg4 hrow q0 q1 hlt hc64
      go_wp2_with (first
        | (refine wpList_store_row rfl 59 _ _ rfl w2.heap.size C rfl rfl 59 zeroC (hp_new rfl) z3 z1 z2 ?_; rw [World.setRow_alloc_new])
        | fail)
      refine wp_region_still_tail 6 (by kernel_rfl) (by kernel_rfl) ?_
      simp only [List.take_succ_cons, List.take_zero, List.drop_succ_cons, List.drop_zero]
      generalize hwd : (w2.alloc (.cells C 59)).drew = wd at *
      change wpStill _ _ ((w2.alloc (.cells C 59)).drew) (fun _ => wpList _ _ _ _ _ ((w2.alloc (.cells C 59)).drew)) _ _
      rw [hwd]
      still_step
      still_step
      still_step
      still_step
      still_step
      refine wpStill_load_row (by rfl) 59 _ rfl w2.heap.size 0 rfl C.toList _ hrgA Tryd.underlying59 rfl (by rw [Array.length_toList]; exact z3) ?_
      simp only [Array.toArray_toList]
      refine wpStill_nil ?_
      go_wp2_with (first
        | (refine wpList_store_eq rfl 59 _ _ rfl rfl rfl kst ?_; go_frame)
        | fail)
      go_roundw
      case rel => exact ⟨_, _, cnt1, ST2⟩
      case measure => rw [HM.out, hle]; exact hlt2
def WriteFr (W : World) (D P L M n k : Nat) (uses left : Int) (las : List (List UInt8)) (f : Int → Option (List UInt8)) (i : Int) (l : List UInt8) (e : Ending) (w' : World) : Prop :=
  e = .returned (.int .i64 0) ∧ DevAt w' D P L M n (k + 1) false (uses + 1) false left las (upd f i (some (pad l))) ∧ Fr3 P L M W w'
set_option linter.unusedSimpArgs false in
set_option maxRecDepth 100000 in
set_option maxHeartbeats 2000000 in
theorem write_fr {W : World} {D P L M n k : Nat} {uses left : Int} {las : List (List UInt8)} {f : Int → Option (List UInt8)} (h : DevAt W D P L M n k false uses false left las f) (hu : 0 ≤ uses ∧ uses ≤ 1000000000) (hk : k ≤ 1000000)
    (i : Int) (hi : 0 ≤ i ∧ i < (n : Int)) (hn : n ≤ 4096) (sa : Option Addr) (ss : List ByteArray) (c : Nat) (hs : ss.length ≤ 1000000) (hsa' : StrsAt (W.setCell ⟨P, 1, none⟩ (.int .i64 (uses + 1))) sa ss) (hz : ∀ i, (ss.getD i ByteArray.empty).size ≤ 140737488355328) (hfit : (joined ss).length ≤ 64) :
    Calls Tryd.prog 21 #[.pointer (some ⟨D, 0, none⟩), .int .i64 i, .slice sa ss.length c] W (WriteFr W D P L M n k uses left las f i (joined ss)) := by
  have KU := Lib.hid (use_on h hu)
  have hd := h.d0
  have h' := (h.pow).2.1 (uses + 1)
  obtain ⟨W1, hW1⟩ : ∃ W1, W1 = W.setCell ⟨P, 1, none⟩ (.int .i64 (uses + 1)) := ⟨_, rfl⟩
  rw [← hW1] at h' hsa' KU
  have hb1 : Fr3 P L M W W1 := by rw [hW1]; exact Fr3.setP _ _ _
  clear hW1
  have KL := Lib.hid (lay_any sa ss c W1 hs hsa' hz)
  obtain ⟨C, hC⟩ : ∃ C, C = (secC (pad (joined ss))).toArray := ⟨_, rfl⟩
  have hlv : layV ss = .tuple #[.agg C, .bool true] := by unfold layV; rw [if_pos hfit, hC]; rfl
  rw [hlv] at KL
  have z3 : (Tryd.prog.info? 59).map (·.size) = some C.size := by rw [hC]; exact sec_info hfit
  have z1 : zeroC.size = C.size := by
    have e : C.size = 64 := by rw [hC, List.size_toArray, secC_len, pad_len hfit]
    rw [e]; rfl
  have z2 : C.all (·.oneCell') = true := by rw [hC]; exact secV_one _
  have HC := Lib.hid hC
  clear hC hlv
  go_enter Tryd.func21, Tryd.ntmps21
  go_wp2_with fail
  refine KU.out.mono ?_
  rintro x w1 ⟨rfl, rfl⟩
  go_wp2_with fail
  refine KL.out.mono ?_
  rintro x w2 ⟨rfl, hb2⟩
  have h2 := h'.below hb2
  have hb3 : Fr3 P L M W w2 := hb1.trans (Fr3.of_below hb2)
  clear hb2 h' hsa' KU KL
  go_wp2_with (first
    | (refine wpList_store_row rfl 59 _ _ rfl w2.heap.size C rfl rfl 59 zeroC (hp_new rfl) z3 z1 z2 ?_; rw [World.setRow_alloc_new])
    | fail)
  have h3 := h2.below ((Below.refl _ _).alloc (o := .cells C 59) (Nat.le_refl _))
  have hH : hasB n i = true := by unfold hasB; rw [decide_eq_true hi.1, decide_eq_true hi.2]; rfl
  have KH := Lib.hid (has_any h3 i)
  rw [hH] at KH
  refine KH.out.mono ?_
  rintro x W3 ⟨rfl, hW3⟩
  rw [hW3] at h3
  have hrow : W3.heap[w2.heap.size]? = some (.cells C 59 (0, 0)) := by rw [← hW3]; exact hp_new rfl
  have hb4 : Fr3 P L M W W3 := by rw [← hW3]; exact hb3.trans (Fr3.of_below ((Below.refl _ _).alloc (Nat.le_refl _) _))
  have h5 := h3.below (W' := W3.drew) ((Below.refl _ _).drew)
  have hsc : C.size = 64 := by rw [HC.out, List.size_toArray, secC_len, pad_len hfit]
  have kld : (Instr.loadAt 59 (.pointer (some ⟨w2.heap.size, 0, none⟩))).run Tryd.prog W3.drew = .ok (.agg C) W3.drew := by
    simp only [Instr.loadAt, Instr.sureAddr, Sem.run_bind, Sem.run_pure, Result.andThen_ok]
    exact run_loadVar_row _ w2.heap.size 59 59 C (0, 0) _ hrow Tryd.underlying59 rfl z3
  obtain ⟨W4, kst, hm4, hg4⟩ := h5.mp.store i (by have := hi.1; have := hi.2; exact WalkArith.wf_i64 (by omega)) (pad (joined ss)) (pad_len hfit) (by unfold maxLen; omega)
  have h6 := h5.map hg4 hm4
  have hb5 : Fr3 P L M W W4 := (hb4.trans (Fr3.of_below ((Below.refl _ _).drew))).trans (Fr3.of_grown hg4 (fun _ e => by injection e with e; exact .inr (.inr e.symm)))
  rw [show secV (pad (joined ss)) = .agg C by rw [HC.out]; rfl] at kst
  have hd2 := h5.d2
  have H6 := Lib.hid h6
  have hd4 := h6.d2
  have hrg : W3.drew.rangeAt w2.heap.size 0 C.toList := fun j v hv => by
    rw [Nat.zero_add, cell_of_row W3.drew w2.heap.size j C _ _ hrow]; simpa using hv
  have hMb : M ≠ w2.heap.size := by have := h2.mp; obtain ⟨_, hM, _⟩ := this; have := hM.lt; omega
  have hrg4 : W4.rangeAt w2.heap.size 0 C.toList := fun j v hv => cell_apart hg4 (fun e => hMb e.symm) (hrg j v hv)
  clear h2 h3 hW3 hb3 hb4 h5 hm4 hg4 h6 hb1 z1 z2 HC KH
  go_wp2_with fail
  refine wp_region_held_drew (S := (fun w' => w'.cell? ⟨D, 2, none⟩ = some (.map (some M)) ∧ w'.rangeAt w2.heap.size 0 C.toList)) (by kernel_rfl) ?_ (fun hHeld => ?_)
  · (try dsimp only); exact ⟨(by first | exact hd2 | exact hd4), (by first | exact hrg | exact hrg4)⟩
  refine wpAnyH_take (i := 0) (v := ?_) rfl (by kernel_rfl) (by kernel_rfl) (by kernel_rfl) (fun _ _ _ h => h) (Or.inl ⟨by rfl, ?_⟩) (by assumption) ?_
  rotate_left 1
  · (intro w' hSw; (try dsimp only at hSw); go_simp; try (with_reducible rfl))
  try simp only [Act.put, List.setIfInBounds_toArray, List.set_cons_zero, List.set_cons_succ]
  refine wpAnyH_take (i := 1) (v := ?_) rfl (by kernel_rfl) (by kernel_rfl) (by kernel_rfl) (fun _ _ _ h => h) (Or.inl ⟨by rfl, ?_⟩) (by assumption) ?_
  rotate_left 1
  · (intro w' hSw; (try dsimp only at hSw); go_simp; try (with_reducible rfl))
  try simp only [Act.put, List.setIfInBounds_toArray, List.set_cons_zero, List.set_cons_succ]
  refine wpAnyH_take (i := 2) (v := ?_) rfl (by kernel_rfl) (by kernel_rfl) (by kernel_rfl) (fun _ _ _ h => h) (Or.inl ⟨by rfl, ?_⟩) (by assumption) ?_
  rotate_left 1
  · (intro w' hSw; (try dsimp only at hSw); go_simp; try (with_reducible rfl))
  try simp only [Act.put, List.setIfInBounds_toArray, List.set_cons_zero, List.set_cons_succ]
  refine wpAnyH_take (i := 3) (v := ?_) rfl (by kernel_rfl) (by kernel_rfl) (by kernel_rfl) (fun _ _ _ h => h) (Or.inl ⟨by rfl, ?_⟩) (by assumption) ?_
  rotate_left 1
  · (intro w' hSw; (try dsimp only at hSw); go_simp; try (with_reducible rfl))
  try simp only [Act.put, List.setIfInBounds_toArray, List.set_cons_zero, List.set_cons_succ]
  refine wpAnyH_take (i := 4) (v := ?_) rfl (by kernel_rfl) (by kernel_rfl) (by kernel_rfl) (fun _ _ _ h => h) (Or.inl ⟨by rfl, ?_⟩) (by assumption) ?_
  rotate_left 1
  · (intro w' hSw; (try dsimp only at hSw); go_simp; try (with_reducible rfl))
  try simp only [Act.put, List.setIfInBounds_toArray, List.set_cons_zero, List.set_cons_succ]
  refine wpAnyH_take (i := 5) (v := .agg C.toList.toArray) rfl (by kernel_rfl) (by kernel_rfl) (by kernel_rfl) (fun _ _ _ h => h) (yieldsIf_load_mid (by rfl) 59 _ rfl w2.heap.size 0 rfl C.toList _ (fun w hw => hw.2) Tryd.underlying59 rfl (by rw [Array.length_toList]; exact z3)) (by assumption) ?_
  simp only [Act.put, List.setIfInBounds_toArray, Array.toArray_toList, List.set_cons_zero, List.set_cons_succ]
  refine wpAnyH_ready (rs := [6]) (by kernel_rfl) (by simp) ?_
  refine AllReadyH.cons rfl (fun K hK => ?_) AllReadyH.nil
  go_simp
  refine hK.out _ _ ?_ (fun hHeld => ?_)
  · (try dsimp only); exact ⟨(by first | exact hd2 | exact hd4), (by first | exact hrg | exact hrg4)⟩
  clear hK K
  refine wpAnyH_done (by kernel_rfl) ?_ _
  go_wp2
  go_ret
  exact ⟨rfl, H6.out, hb5⟩
/-- A write that writes nothing: no such sector, or more than it holds. -/
def WriteNo (W : World) (D P L M n k : Nat) (uses left : Int) (las : List (List UInt8)) (f : Int → Option (List UInt8)) (e : Ending) (w' : World) : Prop :=
  e = .returned (.int .i64 1) ∧ DevAt w' D P L M n k false (uses + 1) false left las f ∧ Fr3 P L M W w'
set_option linter.unusedSimpArgs false in
set_option maxRecDepth 100000 in
set_option maxHeartbeats 2000000 in
theorem write_no {W : World} {D P L M n k : Nat} {uses left : Int} {las : List (List UInt8)} {f : Int → Option (List UInt8)} (h : DevAt W D P L M n k false uses false left las f) (hu : 0 ≤ uses ∧ uses ≤ 1000000000)
    (i : Int) (sa : Option Addr) (ss : List ByteArray) (c : Nat) (hs : ss.length ≤ 1000000) (hsa' : StrsAt (W.setCell ⟨P, 1, none⟩ (.int .i64 (uses + 1))) sa ss) (hz : ∀ i, (ss.getD i ByteArray.empty).size ≤ 140737488355328) (hno : 64 < (joined ss).length ∨ hasB n i = false) :
    Calls Tryd.prog 21 #[.pointer (some ⟨D, 0, none⟩), .int .i64 i, .slice sa ss.length c] W (WriteNo W D P L M n k uses left las f) := by
  have KU := Lib.hid (use_on h hu)
  have hd := h.d0
  have h' := (h.pow).2.1 (uses + 1)
  obtain ⟨W1, hW1⟩ : ∃ W1, W1 = W.setCell ⟨P, 1, none⟩ (.int .i64 (uses + 1)) := ⟨_, rfl⟩
  rw [← hW1] at h' hsa' KU
  have hb1 : Fr3 P L M W W1 := by rw [hW1]; exact Fr3.setP _ _ _
  clear hW1
  have KL := Lib.hid ((lay_any sa ss c W1 hs hsa' hz).mono fun e w' hh => (⟨hh.1, Lib.hid (h'.below hh.2), Lib.hid (hb1.trans (Fr3.of_below hh.2))⟩ : e = .returned (layV ss) ∧ Hid (DevAt w' D P L M n k false (uses + 1) false left las f) ∧ Hid (Fr3 P L M W w')))
  have hV : ∃ (l0 : List UInt8) (b : Bool), l0.length = 64 ∧ layV ss = .tuple #[.agg (secC l0).toArray, .bool b] ∧ (b = true → hasB n i = false) := by
    unfold layV
    by_cases h : (joined ss).length ≤ 64
    · rw [if_pos h]
      refine ⟨_, true, pad_len h, rfl, fun _ => ?_⟩
      rcases hno with hno | hno
      · omega
      · exact hno
    · rw [if_neg h]; exact ⟨_, false, pad_len (by decide), rfl, fun e => by cases e⟩
  obtain ⟨l0, b, hl0, hlv, hbn⟩ := hV
  rw [hlv] at KL
  have hC64 : (secC l0).toArray.size = 64 := by rw [List.size_toArray, secC_len, hl0]
  have z2 : (secC l0).toArray.all (·.oneCell') = true := secV_one _
  generalize (secC l0).toArray = C at KL hC64 z2
  have z3 : (Tryd.prog.info? 59).map (·.size) = some C.size := by rw [hC64]; exact (zero_of_info infoK).2
  have z1 : zeroC.size = C.size := by rw [hC64]; rfl
  clear hlv hl0 hC64 h' hsa' hb1
  cases b with
  | true =>
    have hH := hbn rfl
    clear hbn hno
    go_enter Tryd.func21, Tryd.ntmps21
    go_wp2_with fail
    refine KU.out.mono ?_
    rintro x w1 ⟨rfl, rfl⟩
    go_wp2_with fail
    refine KL.out.mono ?_
    rintro x w2 ⟨rfl, hd2, hf2⟩
    have hd3 := Lib.hid (hd2.out.below ((Below.refl _ _).alloc (o := .cells C 59) (Nat.le_refl _)))
    have hf3 := Lib.hid (hf2.out.trans (Fr3.of_below ((Below.refl _ _).alloc (o := .cells C 59) (Nat.le_refl _))))
    have KH := Lib.hid (has_any hd3.out i)
    rw [hH] at KH
    clear hd2 hf2
    go_wp2_with (first
      | (refine wpList_store_row rfl 59 _ _ rfl w2.heap.size C rfl rfl 59 zeroC (hp_new rfl) z3 z1 z2 ?_; rw [World.setRow_alloc_new])
      | fail)
    refine KH.out.mono ?_
    rintro x w3 ⟨rfl, rfl⟩
    go_wp2
    go_ret
    exact ⟨rfl, hd3.out, hf3.out⟩
  | false =>
    clear hbn hno
    go_enter Tryd.func21, Tryd.ntmps21
    go_wp2_with fail
    refine KU.out.mono ?_
    rintro x w1 ⟨rfl, rfl⟩
    go_wp2_with fail
    refine KL.out.mono ?_
    rintro x w2 ⟨rfl, hd2, hf2⟩
    have hd3 := Lib.hid (hd2.out.below ((Below.refl _ _).alloc (o := .cells C 59) (Nat.le_refl _)))
    have hf3 := Lib.hid (hf2.out.trans (Fr3.of_below ((Below.refl _ _).alloc (o := .cells C 59) (Nat.le_refl _))))
    clear hd2 hf2
    go_wp2_with (first
      | (refine wpList_store_row rfl 59 _ _ rfl w2.heap.size C rfl rfl 59 zeroC (hp_new rfl) z3 z1 z2 ?_; rw [World.setRow_alloc_new])
      | fail)
    go_ret
    exact ⟨rfl, hd3.out, hf3.out⟩
theorem run_blank (W : World) : (Instr.makeSlice 30 (.int .i64 64) (.int .i64 64)).run Tryd.prog W = .ok (.slice (some ⟨W.heap.size, 0, none⟩) 64 64) (W.alloc (.cells (secC blank64).toArray 5)) := by
  have hinfo : (Tryd.prog.info? 5).map (fun i => (i.zero, i.size, i.bytes)) = some (some (.int .u8 0), 1, 1) := by kernel_rfl
  obtain ⟨i, hi, hzz⟩ := Option.map_eq_some_iff.1 hinfo
  simp only [Prod.mk.injEq] at hzz
  obtain ⟨hz, hs, hb⟩ := hzz
  have hr := run_make (P := Tryd.prog) W 30 5 i (.int .u8 0) Tryd.underlying30 hi hz .i64 .i64 64 64 (by omega) (Int.le_refl _) (by rw [hb]; omega) (by omega)
  have hm : madeCells (Value.int .u8 0).cells ((64 : Int).toNat * i.size) = (secC blank64).toArray := by rw [hs]; kernel_rfl
  rw [hm] at hr
  exact hr
theorem conv_blank (W : World) : (convert 30 9 (.slice (some ⟨W.heap.size, 0, none⟩) 64 64)).run Tryd.prog (W.alloc (.cells (secC blank64).toArray 5)) = .ok (.string (txt blank64)) (W.alloc (.cells (secC blank64).toArray 5)) :=
  conv_sec (row_range (T := 5) (hp_new rfl)) blank64_len
theorem one_str (w : World) (s : ByteArray) (T : TypeId) : StrsAt (w.alloc (.cells #[.string s] T)) (some ⟨w.heap.size, 0, none⟩) [s] :=
  .inr ⟨w.heap.size, 0, rfl, fun i hi => by
    match i, hi with
    | 0, _ => exact new_cell rfl rfl⟩
theorem new_dev (n : Nat) (w : World) (h1 : 1 ≤ n) (h2 : n ≤ 4096) : Calls Tryd.prog 6 #[.pointer none, .int .i64 (n : Int)] w fun e w' => ∃ D P L M, e = .returned (.pointer (some ⟨D, 0, none⟩)) ∧ Hid (DevAt w' D P L M n 0 false 0 false 0 (List.replicate n blank64) (fun _ => none)) ∧ Hid (Below w.heap.size w w') ∧ w.heap.size ≤ P ∧ w.heap.size ≤ L ∧ w.heap.size ≤ M :=
  (new_any n w h1 h2).mono fun _ _ ⟨e, hd, hb⟩ => ⟨_, _, _, _, e, hd, hb, by omega, by omega, by omega⟩
theorem DevAt.lts {W : World} {D P L M n k : Nat} {off : Bool} {uses : Int} {armed : Bool} {left : Int} {las : List (List UInt8)} {f : Int → Option (List UInt8)} (h : DevAt W D P L M n k off uses armed left las f) : D < W.heap.size ∧ P < W.heap.size ∧ L < W.heap.size := ⟨block_lt (p := ⟨D, 0, none⟩) h.d0, block_lt (p := ⟨P, 0, none⟩) h.p0, blk_lt h.lb⟩
theorem join1 (s : ByteArray) : joined [s] = s.data.toList := by unfold joined; simp
theorem ret_str {a b : ByteArray} (h : a = b) : Ending.returned (.string a) = .returned (.string b) := by rw [h]
theorem ret_bool {a b : Bool} (h : a = b) : Ending.returned (.bool a) = .returned (.bool b) := by rw [h]
/-- A slice of ints that reads as these numbers. -/
def IntsAt (w : World) (a : Option Addr) (l : List Int) : Prop :=
  l = [] ∨ ∃ b off, a = some ⟨b, off, none⟩ ∧ ∀ i, i < l.length → w.cell? ⟨b, off + i, none⟩ = some (.int .i64 (l.getD i 0))
theorem IntsAt.below {w w' : World} {a : Option Addr} {l : List Int} (h : IntsAt w a l) (hb : Below w.heap.size w w') : IntsAt w' a l := by
  rcases h with h | ⟨b, off, e, h⟩
  · exact .inl h
  · exact .inr ⟨b, off, e, fun i hi => keep_cell hb (h i hi)⟩
theorem StrsAt.below {w w' : World} {a : Option Addr} {ss : List ByteArray} (h : StrsAt w a ss) (hb : Below w.heap.size w w') : StrsAt w' a ss := by
  rcases h with h | ⟨b, off, e, h⟩
  · exact .inl h
  · exact .inr ⟨b, off, e, fun i hi => keep_cell hb (h i hi)⟩
/-- An act, as it came in. -/
structure Da where
  k : Int
  n : Int
  o : Bool
  da : Option Addr
  dl : List ByteArray
  dc : Nat
  ka : Option Addr
  kl : List Int
  kc : Nat
def Da.cells (x : Da) : Array Value := #[.int .i64 x.k, .int .i64 x.n, .bool x.o, .slice x.da x.dl.length x.dc, .slice x.ka x.kl.length x.kc]
def noDa : Da := ⟨0, 0, false, none, [], 0, none, [], 0⟩
structure DaOk (w : World) (x : Da) : Prop where
  n : (Lit.int .i64 x.n).wf = true
  ds : StrsAt w x.da x.dl
  dz : ∀ s ∈ x.dl, s.size ≤ 140737488351232
  dn : x.dl.length ≤ maxLen
  ks : IntsAt w x.ka x.kl
  kz : ∀ z ∈ x.kl, (Lit.int .i64 z).wf = true
  kn : x.kl.length ≤ maxLen
theorem DaOk.below {w w' : World} {x : Da} (h : DaOk w x) (hb : Below w.heap.size w w') : DaOk w' x := { h with ds := h.ds.below hb, ks := h.ks.below hb }
structure DaCells (w : World) (b off : Nat) (x : Da) : Prop where
  k : w.cell? ⟨b, off, none⟩ = some (.int .i64 x.k)
  n : w.cell? ⟨b, off + 1, none⟩ = some (.int .i64 x.n)
  o : w.cell? ⟨b, off + 2, none⟩ = some (.bool x.o)
  d : w.cell? ⟨b, off + 3, none⟩ = some (.slice x.da x.dl.length x.dc)
  m : w.cell? ⟨b, off + 4, none⟩ = some (.slice x.ka x.kl.length x.kc)
theorem DaCells.below {w w' : World} {b off : Nat} {x : Da} (h : DaCells w b off x) (hb : Below w.heap.size w w') : DaCells w' b off x :=
  ⟨keep_cell hb h.k, keep_cell hb h.n, keep_cell hb h.o, keep_cell hb h.d, keep_cell hb h.m⟩
def DasAt (w : World) (a : Option Addr) (L : List Da) : Prop :=
  (∀ x ∈ L, DaOk w x) ∧ (L = [] ∨ ∃ b off, a = some ⟨b, off, none⟩ ∧ ∀ i, i < L.length → DaCells w b (off + i * 5) (L.getD i noDa))
theorem DasAt.below {w w' : World} {a : Option Addr} {L : List Da} (h : DasAt w a L) (hb : Below w.heap.size w w') : DasAt w' a L := by
  refine ⟨fun x hx => (h.1 x hx).below hb, ?_⟩
  rcases h.2 with h2 | ⟨b, off, e, h2⟩
  · exact .inl h2
  · exact .inr ⟨b, off, e, fun i hi => (h2 i hi).below hb⟩
theorem mem_getD {L : List Da} {k : Nat} (hk : k < L.length) : L.getD k noDa ∈ L := by
  rw [List.getD_eq_getElem?_getD, List.getElem?_eq_getElem hk]; exact List.getElem_mem _
theorem DasAt.at {w : World} {a : Option Addr} {L : List Da} (h : DasAt w a L) {k : Nat} (hk : k < L.length) : ∃ b off, a = some ⟨b, off, none⟩ ∧ DaCells w b (off + k * 5) (L.getD k noDa) ∧ DaOk w (L.getD k noDa) := by
  rcases h.2 with h2 | ⟨b, off, e, h2⟩
  · subst h2; simp at hk
  · exact ⟨b, off, e, h2 k hk, h.1 _ (mem_getD hk)⟩
theorem txt_append (l : List UInt8) (s : ByteArray) : txt l ++ s = txt (l ++ s.data.toList) := by
  unfold txt
  apply ByteArray.ext
  simp [ByteArray.data_append]
theorem txt_size (l : List UInt8) : (txt l).size = l.length := by unfold txt; simp [ByteArray.size]
theorem joined_small : ∀ {ss : List ByteArray}, (∀ s ∈ ss, s.size ≤ 140737488351232) → (joined ss).length ≤ ss.length * 140737488351232
  | [], _ => Nat.le_refl _
  | s :: ss, h => by
    have h1 := h s List.mem_cons_self
    have h2 := joined_small (ss := ss) (fun y hy => h y (List.mem_cons_of_mem _ hy))
    unfold joined at h2 ⊢
    rw [List.flatMap_cons, List.length_append, ba_len, List.length_cons, Nat.succ_mul]; omega
def greatA (x : Da) : Bool := decide (6 < x.dl.length) || decide (200 < (joined x.dl).length) || decide (40 < x.kl.length)
def greatB (L : List Da) : Bool := decide (60 < L.length) || L.any greatA
theorem greatB_no {L : List Da} (h : greatB L = false) : L.length ≤ 60 ∧ ∀ x ∈ L, x.dl.length ≤ 6 ∧ (joined x.dl).length ≤ 200 ∧ x.kl.length ≤ 40 := by
  unfold greatB at h
  rw [Bool.or_eq_false_iff] at h
  refine ⟨by have := h.1; simp at this; omega, fun x hx => ?_⟩
  have := List.any_eq_false.1 h.2 x hx
  unfold greatA at this
  simp at this; omega
/-- delete. -/
theorem LooseAt.dropAt {W : World} {M n : Nat} {f : Int → Option (List UInt8)} (h : LooseAt W M n f) (i : Int) (hi : (Lit.int .i64 i).wf = true) (ty : TypeId) :
    ∃ W', (Builtin.delete_ #[49, 3] ty #[.map (some M), .int .i64 i]).run Tryd.prog W = .ok (.tuple #[]) W' ∧ LooseAt W' M n (upd f i none) ∧ W.grownBy W' (some M) := by
  obtain ⟨D, h1, h2, h3⟩ := h
  have hk := keyOf_int_mk (P := Tryd.prog) Tryd.underlying3 hi
  obtain ⟨W', hrun, hown, es, clock, es', clock', hb, hw⟩ := h1.drop keyLaw Tryd.underlying49 hk ty
  refine ⟨W', hrun, ⟨_, hown, fun k => ?_, fun k m hm => ?_⟩, ?_⟩
  · unfold upd
    by_cases e : k = i
    · subst e; rw [has_del_same, if_pos rfl]; rfl
    · rw [has_del_other (by intro x; injection x with _ x; exact e x), if_neg e]; exact h2 k
  · unfold upd at hm
    by_cases e : k = i
    · rw [if_pos e] at hm; cases hm
    · rw [if_neg e] at hm
      rw [atKey_del_other (by intro x; injection x with _ x; exact e x)]; exact h3 k m hm
  · rw [hw]
    exact ⟨rfl, rfl, rfl, by simp [setBlock], fun j _ hj => heap_setBlock_other hb _ (fun e => hj (by rw [e]))⟩
section
variable {W : World} {D P L M n k : Nat} {off : Bool} {uses : Int} {armed : Bool} {left : Int} {las : List (List UInt8)} {f : Int → Option (List UInt8)}
def PutFr (W : World) (D P L M n k : Nat) (off : Bool) (uses : Int) (armed : Bool) (left : Int) (las : List (List UInt8)) (f : Int → Option (List UInt8)) (q : Nat) (l : List UInt8) (e : Ending) (w' : World) : Prop :=
  e = .returned (.int .i64 0) ∧ DevAt w' D P L M n k off uses armed left (las.set q (pad l)) (upd f (q : Int) none) ∧ Fr3 P L M W w'
def PutNo (W : World) (D P L M n k : Nat) (off : Bool) (uses : Int) (armed : Bool) (left : Int) (las : List (List UInt8)) (f : Int → Option (List UInt8)) (e : Ending) (w' : World) : Prop :=
  e = .returned (.int .i64 1) ∧ DevAt w' D P L M n k off uses armed left las f ∧ Fr3 P L M W w'
end
/-- A power in memory, on, not armed. -/
structure PowAt (W : World) (P : Nat) (uses left : Int) : Prop where
  p0 : W.cell? ⟨P, 0, none⟩ = some (.bool false)
  p1 : W.cell? ⟨P, 1, none⟩ = some (.int .i64 uses)
  p2 : W.cell? ⟨P, 2, none⟩ = some (.bool false)
  p3 : W.cell? ⟨P, 3, none⟩ = some (.int .i64 left)
  pf : ∀ i, W.frozen? ⟨P, i, none⟩ = false
set_option maxHeartbeats 1000000 in
theorem new_at (n : Nat) (w : World) (P : Nat) (uses left : Int) (hp : PowAt w P uses left) (h1 : 1 ≤ n) (h2 : n ≤ 4096) : Calls Tryd.prog 6 #[.pointer (some ⟨P, 0, none⟩), .int .i64 (n : Int)] w fun e w' => ∃ D L M, e = .returned (.pointer (some ⟨D, 0, none⟩)) ∧ Hid (DevAt w' D P L M n 0 false uses false left (List.replicate n blank64) (fun _ => none)) ∧ Hid (Below w.heap.size w w') ∧ w.heap.size ≤ D ∧ w.heap.size ≤ L ∧ w.heap.size ≤ M := by
  have hmk := make_las n h2
  have hmm := @run_makeMap Tryd.prog
  have b1 : (1 : Int) ≤ (n : Int) := by omega
  have b2 : (n : Int) ≤ 4096 := by omega
  have hPl : P < w.heap.size := block_lt (p := ⟨P, 0, none⟩) hp.p0
  generalize hC : (lasC (List.replicate n blank64)).toArray = C at hmk
  have HC := Lib.hid hC; clear hC
  have HP := Lib.hid hp; clear hp
  go_enter Tryd.func6, Tryd.ntmps6
  go_wp2
  go_ret
  have hb : Below w.heap.size w (((w.alloc (.cells C 59)).alloc (.map #[] 0)).alloc (.cells #[.pointer (some ⟨P, 0, none⟩), .slice (some ⟨w.heap.size, 0, none⟩) n n, .map (some (w.heap.size + 1))] 51)) :=
    (((Below.refl _ w).alloc (Nat.le_refl _) _).alloc (by simp only [World.size_alloc]; omega) _).alloc (by simp only [World.size_alloc]; omega) _
  refine ⟨w.heap.size + 1 + 1, w.heap.size, w.heap.size + 1, rfl, ⟨?_, ?_, ?_, ?_, ?_, ?_, ?_, ?_, ?_, ?_, ?_, ?_, ?_, ?_, ?_, ?_, ?_, ?_⟩, hb, by omega, by omega, by omega⟩
  · exact new_cell (by simp only [World.size_alloc]) rfl
  · exact new_cell (by simp only [World.size_alloc]) rfl
  · exact new_cell (by simp only [World.size_alloc]) rfl
  · exact keep_cell hb HP.out.p0
  · exact keep_cell hb HP.out.p1
  · exact keep_cell hb HP.out.p2
  · exact keep_cell hb HP.out.p3
  · exact fun i => (hb.frozen (p := ⟨P, i, none⟩) hPl).trans (HP.out.pf i)
  · rw [← HC.out] at hb ⊢
    exact hp_old (hp_old (hp_new rfl))
  · exact List.length_replicate
  · intro l hl
    rw [List.eq_of_mem_replicate hl]; exact blank64_len
  · have h := (LooseAt.made (w.alloc (.cells C 59)))
    simp only [World.size_alloc] at h
    exact h.below ((Below.refl _ _).alloc (Nat.le_refl _) _)
  all_goals omega
def okF (f : Int → Option (List UInt8)) : Prop := ∀ z l, f z = some l → 0 ≤ z ∧ z < ((6 : Nat) : Int) ∧ l.length = 64
theorem okF.none : okF (fun _ => none) := fun _ _ h => by cases h
theorem okF.upd {f : Int → Option (List UInt8)} (h : okF f) {i : Int} (hi : 0 ≤ i ∧ i < ((6 : Nat) : Int)) {l : List UInt8} (hl : l.length = 64) : okF (upd f i (some l)) := fun z m hm => by
  unfold Go.Proofs.YtckhdknehdjhoaaDoor.upd at hm
  by_cases e : z = i
  · rw [if_pos e] at hm; cases hm; rw [e]; exact ⟨hi.1, hi.2, hl⟩
  · rw [if_neg e] at hm; exact h z m hm
theorem okF.del {f : Int → Option (List UInt8)} (h : okF f) (i : Int) : okF (Go.Proofs.YtckhdknehdjhoaaDoor.upd f i Option.none) := fun z m hm => by
  unfold Go.Proofs.YtckhdknehdjhoaaDoor.upd at hm
  by_cases e : z = i
  · rw [if_pos e] at hm; cases hm
  · rw [if_neg e] at hm; exact h z m hm
/-- Where the blocks lie. -/
structure ApS (b0 B1 B2 B3 D P L M E L' M' : Nat) : Prop where
  p : b0 ≤ P ∧ P < B1
  d : B1 ≤ D ∧ D < B2
  l : B1 ≤ L ∧ L < B2
  m : B1 ≤ M ∧ M < B2
  e : B2 ≤ E ∧ E < B3
  l' : B2 ≤ L' ∧ L' < B3
  m' : B2 ≤ M' ∧ M' < B3
/-- Two devices of one power, on, not armed. -/
structure Two (w W : World) (D P L M E L' M' c : Nat) (u lf : Int) (kd ke : Nat) (lasd : List (List UInt8)) (fd : Int → Option (List UInt8)) (lase : List (List UInt8)) (fe : Int → Option (List UInt8)) : Prop where
  d : DevAt W D P L M 6 kd false u false lf lasd fd
  e : DevAt W E P L' M' 6 ke false u false lf lase fe
  u : 0 ≤ u ∧ u ≤ (c : Int)
  k : kd ≤ c ∧ ke ≤ c
  fd : okF fd
  fe : okF fe
  bw : Below w.heap.size w W
section
variable {w W : World} {B1 B2 B3 D P L M E L' M' c : Nat} {u lf : Int} {kd ke : Nat} {lasd lase : List (List UInt8)} {fd fe : Int → Option (List UInt8)}
theorem Two.below {W' : World} (h : Two w W D P L M E L' M' c u lf kd ke lasd fd lase fe) (hb : Below W.heap.size W W') : Two w W' D P L M E L' M' c u lf kd ke lasd fd lase fe :=
  { h with d := h.d.below hb, e := h.e.below hb, bw := h.bw.trans (hb.mono h.bw.size) }
theorem Two.mono {c' : Nat} (h : Two w W D P L M E L' M' c u lf kd ke lasd fd lase fe) (hc : c ≤ c') : Two w W D P L M E L' M' c' u lf kd ke lasd fd lase fe :=
  { h with u := ⟨h.u.1, by have := h.u.2; omega⟩, k := ⟨Nat.le_trans h.k.1 hc, Nat.le_trans h.k.2 hc⟩ }
/-- The second one was changed. -/
theorem Two.onE {W' : World} {u' lf' : Int} {ke' : Nat} {lase' : List (List UInt8)} {fe' : Int → Option (List UInt8)} (S : ApS w.heap.size B1 B2 B3 D P L M E L' M') (h : Two w W D P L M E L' M' c u lf kd ke lasd fd lase fe)
    (g : DevAt W' E P L' M' 6 ke' false u' false lf' lase' fe') (hf : Fr3 P L' M' W W') (hu : 0 ≤ u' ∧ u' ≤ ((c + 1 : Nat) : Int)) (hk : ke' ≤ c + 1) (ho : okF fe') : Two w W' D P L M E L' M' (c + 1) u' lf' kd ke' lasd fd lase' fe' := by
  obtain ⟨p1, p2⟩ := S.p
  obtain ⟨d1, d2⟩ := S.d
  obtain ⟨l1, l2⟩ := S.l
  obtain ⟨m1, m2⟩ := S.m
  obtain ⟨l3, l4⟩ := S.l'
  obtain ⟨m3, m4⟩ := S.m'
  exact ⟨h.d.other g hf ⟨by omega, by omega⟩ ⟨by omega, by omega⟩ ⟨by omega, by omega⟩, g, hu, ⟨by have := h.k.1; omega, hk⟩, h.fd, ho, h.bw.trans (hf.below h.bw.size p1 (by omega) (by omega))⟩
/-- The first one was changed. -/
theorem Two.onD {W' : World} {u' lf' : Int} {kd' : Nat} {lasd' : List (List UInt8)} {fd' : Int → Option (List UInt8)} (S : ApS w.heap.size B1 B2 B3 D P L M E L' M') (h : Two w W D P L M E L' M' c u lf kd ke lasd fd lase fe)
    (g : DevAt W' D P L M 6 kd' false u' false lf' lasd' fd') (hf : Fr3 P L M W W') (hu : 0 ≤ u' ∧ u' ≤ ((c + 1 : Nat) : Int)) (hk : kd' ≤ c + 1) (ho : okF fd') : Two w W' D P L M E L' M' (c + 1) u' lf' kd' ke lasd' fd' lase fe := by
  obtain ⟨p1, p2⟩ := S.p
  obtain ⟨l1, l2⟩ := S.l
  obtain ⟨m1, m2⟩ := S.m
  obtain ⟨e1, e2⟩ := S.e
  obtain ⟨l3, l4⟩ := S.l'
  obtain ⟨m3, m4⟩ := S.m'
  exact ⟨g, h.e.other g hf ⟨by omega, by omega⟩ ⟨by omega, by omega⟩ ⟨by omega, by omega⟩, hu, ⟨hk, by have := h.k.2; omega⟩, ho, h.fe, h.bw.trans (hf.below h.bw.size p1 (by omega) (by omega))⟩
theorem StrsAt.set {W : World} {a : Option Addr} {ss : List ByteArray} (h : StrsAt W a ss) (P i : Nat) (v : Value) (hP : ∀ b off j x, W.cell? ⟨b, off + j, none⟩ = some x → a = some ⟨b, off, none⟩ → j < ss.length → b ≠ P) : StrsAt (W.setCell ⟨P, i, none⟩ v) a ss := by
  rcases h with e | ⟨b, off, e, hc⟩
  · exact .inl e
  · refine .inr ⟨b, off, e, fun j hj => ?_⟩
    rw [World.cell?_setCell_other _ _ _ _ (fun x => by injection x with x1 _; exact hP b off j _ (hc j hj) e hj x1.symm)]
    exact hc j hj
/-- Texts that came in, behind a write of the power's. -/
theorem StrsAt.came {a : Option Addr} {ss : List ByteArray} (h0 : StrsAt w a ss) (hb : Below w.heap.size w W) (P i : Nat) (hP : w.heap.size ≤ P) (v : Value) : StrsAt (W.setCell ⟨P, i, none⟩ v) a ss := by
  rcases h0 with e | ⟨b, off, e, hc⟩
  · exact .inl e
  · refine .inr ⟨b, off, e, fun j hj => ?_⟩
    have hlt : b < w.heap.size := block_lt (p := ⟨b, off + j, none⟩) (hc j hj)
    rw [World.cell?_setCell_other _ _ _ _ (fun x => by injection x with x1 _; omega)]
    exact keep_cell hb (hc j hj)
/-- What is done to the second one: its answer isn't looked at. -/
def DoneE (w W : World) (D P L M E L' M' c : Nat) (kd : Nat) (lasd : List (List UInt8)) (fd : Int → Option (List UInt8)) (w' : World) : Prop :=
  ∃ (u' lf' : Int) (ke' : Nat) (lase' : List (List UInt8)) (fe' : Int → Option (List UInt8)), Two w w' D P L M E L' M' (c + 1) u' lf' kd ke' lasd fd lase' fe' ∧ Fr3 P L' M' W w'
theorem bytes_small {ss : List ByteArray} (h : ∀ s ∈ ss, s.size ≤ 140737488351232) (i : Nat) : (ss.getD i ByteArray.empty).size ≤ 140737488355328 := by
  rw [List.getD_eq_getElem?_getD]
  cases hx : ss[i]? with
  | none => simp [ByteArray.size]
  | some s => have := h s (List.mem_of_getElem? hx); simp only [Option.getD_some]; omega
theorem e_write (S : ApS w.heap.size B1 B2 B3 D P L M E L' M') (h : Two w W D P L M E L' M' c u lf kd ke lasd fd lase fe) (hc : c ≤ 1000) (x : Da) (hx : DaOk w x) (h6 : x.dl.length ≤ 6) :
    Calls Tryd.prog 21 #[.pointer (some ⟨E, 0, none⟩), .int .i64 x.n, .slice x.da x.dl.length x.dc] W fun e w' => (∃ r, e = .returned (.int .i64 r)) ∧ DoneE w W D P L M E L' M' c kd lasd fd w' := by
  have hu := h.u
  have hk := h.k
  have hsa := hx.ds.came h.bw P 1 S.p.1 (.int .i64 (u + 1))
  by_cases hh : (joined x.dl).length ≤ 64 ∧ 0 ≤ x.n ∧ x.n < ((6 : Nat) : Int)
  · refine (write_fr h.e ⟨hu.1, by omega⟩ (by omega) x.n hh.2 (by omega) x.da x.dl x.dc (by omega) hsa (bytes_small hx.dz) hh.1).mono ?_
    rintro e w' ⟨rfl, g, hf⟩
    exact ⟨⟨_, rfl⟩, _, _, _, _, _, h.onE S g hf ⟨by omega, by omega⟩ (by omega) (h.fe.upd hh.2 (pad_len hh.1)), hf⟩
  · refine (write_no h.e ⟨hu.1, by omega⟩ x.n x.da x.dl x.dc (by omega) hsa (bytes_small hx.dz) ?_).mono ?_
    · by_cases h64 : (joined x.dl).length ≤ 64
      · right
        unfold hasB
        by_cases h0 : 0 ≤ x.n
        · rw [decide_eq_false (show ¬ x.n < ((6 : Nat) : Int) from fun hl => hh ⟨h64, h0, hl⟩), Bool.and_false]
        · rw [decide_eq_false h0, Bool.false_and]
      · left; omega
    rintro e w' ⟨rfl, g, hf⟩
    exact ⟨⟨_, rfl⟩, _, _, _, _, _, h.onE S g hf ⟨by omega, by omega⟩ (by omega) h.fe, hf⟩
theorem e_sync (S : ApS w.heap.size B1 B2 B3 D P L M E L' M') (h : Two w W D P L M E L' M' c u lf kd ke lasd fd lase fe) (hc : c ≤ 1000) :
    Calls Tryd.prog 13 #[.pointer (some ⟨E, 0, none⟩)] W fun e w' => (∃ r, e = .returned (.int .i64 r)) ∧ DoneE w W D P L M E L' M' c kd lasd fd w' := by
  have hu := h.u
  have hk := h.k
  refine (sync_any h.e ⟨hu.1, by omega⟩ h.fe).mono ?_
  rintro e w' ⟨rfl, las2, g, _, hf⟩
  exact ⟨⟨_, rfl⟩, _, _, _, _, _, h.onE S g hf ⟨by omega, by omega⟩ (by omega) okF.none, hf⟩
theorem d_write (S : ApS w.heap.size B1 B2 B3 D P L M E L' M') (h : Two w W D P L M E L' M' c u lf kd ke lasd fd lase fe) (hc : c ≤ 1000) (q : Nat) (hq : q < 6) (s : ByteArray) (hs : s.size ≤ 64) :
    Calls Tryd.prog 21 #[.pointer (some ⟨D, 0, none⟩), .int .i64 (q : Int), .slice (some ⟨W.heap.size, 0, none⟩) 1 1] (W.alloc (.cells #[.string s] 9)) fun e w' => (∃ r, e = .returned (.int .i64 r)) ∧ ∃ (u' lf' : Int) (kd' : Nat) (fd' : Int → Option (List UInt8)), Two w w' D P L M E L' M' (c + 1) u' lf' kd' ke lasd fd' lase fe ∧ W.heap.size ≤ w'.heap.size := by
  have h1 := h.below ((Below.refl _ _).alloc (o := .cells #[.string s] 9) (Nat.le_refl _))
  have hu := h.u
  have hk := h.k
  have hPl := h.d.lts.2.1
  have hfit : (joined [s]).length ≤ 64 := by rw [join1, ba_len]; exact hs
  refine (write_fr h1.d ⟨hu.1, by omega⟩ (by omega) (q : Int) ⟨by omega, by omega⟩ (by omega) (some ⟨W.heap.size, 0, none⟩) [s] 1 (by simp) ((one_str W s 9).set P 1 (.int .i64 (u + 1)) (fun b off j x _ e _ => by injection e with e; injection e with e _; omega)) (fun i => by
    cases i with
    | zero => show s.size ≤ _; omega
    | succ i => simp [ByteArray.size]) hfit).mono ?_
  rintro e w' ⟨rfl, g, hf⟩
  exact ⟨⟨_, rfl⟩, _, _, _, _, h1.onD S g hf ⟨by omega, by omega⟩ (by omega) (h1.fd.upd ⟨by omega, by omega⟩ (pad_len hfit)), Nat.le_trans (by rw [World.size_alloc]; omega) hf.size⟩
theorem DevAt.blocks {W W' : World} {D P L M n k : Nat} {off : Bool} {uses : Int} {armed : Bool} {left : Int} {las : List (List UInt8)} {f : Int → Option (List UInt8)} (h : DevAt W D P L M n k off uses armed left las f)
    (hD : W'.heap[D]? = W.heap[D]?) (hP : W'.heap[P]? = W.heap[P]?) (hL : W'.heap[L]? = W.heap[L]?) (hM : W'.heap[M]? = W.heap[M]?) : DevAt W' D P L M n k off uses armed left las f where
  d0 := (World.cell?_of_block (a := ⟨D, 0, none⟩) hD).trans h.d0
  d1 := (World.cell?_of_block (a := ⟨D, 1, none⟩) hD).trans h.d1
  d2 := (World.cell?_of_block (a := ⟨D, 2, none⟩) hD).trans h.d2
  p0 := (World.cell?_of_block (a := ⟨P, 0, none⟩) hP).trans h.p0
  p1 := (World.cell?_of_block (a := ⟨P, 1, none⟩) hP).trans h.p1
  p2 := (World.cell?_of_block (a := ⟨P, 2, none⟩) hP).trans h.p2
  p3 := (World.cell?_of_block (a := ⟨P, 3, none⟩) hP).trans h.p3
  pf := fun i => (World.frozen?_of_block (a := ⟨P, i, none⟩) hP).trans (h.pf i)
  lb := hL.trans h.lb
  ll := h.ll
  l64 := h.l64
  mp := by
    obtain ⟨D0, ⟨es, clock, hb, F, hs, hD⟩, h5⟩ := h.mp
    exact ⟨D0, ⟨es, clock, hM.trans hb, F, hs, hD⟩, h5⟩
  dp := h.dp
  dl := h.dl
  dm := h.dm
  pl := h.pl
  pm := h.pm
  lm := h.lm
theorem Two.belowB {W' : World} (S : ApS w.heap.size B1 B2 B3 D P L M E L' M') (h : Two w W D P L M E L' M' c u lf kd ke lasd fd lase fe) (hb : Below B3 W W') : Two w W' D P L M E L' M' c u lf kd ke lasd fd lase fe := by
  obtain ⟨p1, p2⟩ := S.p
  obtain ⟨d1, d2⟩ := S.d
  obtain ⟨l1, l2⟩ := S.l
  obtain ⟨m1, m2⟩ := S.m
  obtain ⟨e1, e2⟩ := S.e
  obtain ⟨l3, l4⟩ := S.l'
  obtain ⟨m3, m4⟩ := S.m'
  exact { h with
    d := h.d.blocks (hb.block _ (by omega)) (hb.block _ (by omega)) (hb.block _ (by omega)) (hb.block _ (by omega))
    e := h.e.blocks (hb.block _ (by omega)) (hb.block _ (by omega)) (hb.block _ (by omega)) (hb.block _ (by omega))
    bw := h.bw.trans (hb.mono (by omega)) }
end
/-- A row of texts of the call's own. -/
def RowS (W : World) (B : Nat) (v : Value) (ts : List ByteArray) : Prop := W.ownsRow B 9 1 v ts.length (ts.map Value.string)
theorem RowS.below {W W' : World} {B : Nat} {v : Value} {ts : List ByteArray} (h : RowS W B v ts) (hb : Below W.heap.size W W') : RowS W' B v ts :=
  World.ownsRow.kept h (row := none) ⟨hb.os, hb.tape, hb.output, hb.size, fun k hk _ => hb.block k hk⟩ (by cases v.ownBlock with
    | none => exact .inl rfl
    | some k => exact .inr (fun e => by cases e))
theorem RowS.none (W : World) (B : Nat) : RowS W B (.slice none 0 0) [] := World.ownsRow_nil _ _ _ _
theorem infoS : (Tryd.prog.info? 9).map (fun i => (i.zero, i.size, i.bytes)) = some (some (.string ⟨#[]⟩), 1, 16) := by kernel_rfl
theorem append_str {W0 : World} {ops : Array Oper} {rest : List Oper} {o : Oper} {a : Act} {Q : Exit → Act → World → Prop} (hgd : o.guard = none) (s x : Operand)
    (ho : o.op = .call { callee := .builtin .append, args := #[s, x], argTypes := #[31, 31] })
    (B : Nat) (v : Value) (ts : List ByteArray) (t : ByteArray) (hs : a.eval s = v) (hown : RowS W0 B v ts) (hx : a.eval x = .slice (some ⟨W0.heap.size, 0, none⟩) 1 1) (h10 : ts.length ≤ 100) (hB : B ≤ W0.heap.size)
    (h : ∀ v' w', RowS w' B v' (ts ++ [t]) → (W0.alloc (.cells #[.string t] 9)).grownBy w' v.ownBlock → (v'.ownBlock = v.ownBlock ∨ v'.ownBlock = some (W0.heap.size + 1)) → wpList Tryd.prog ops Q rest (a.put o.dst v') w') :
    wpList Tryd.prog ops Q (o :: rest) a (W0.alloc (.cells #[.string t] 9)) := by
  obtain ⟨i0, hi, hzz⟩ := Option.map_eq_some_iff.1 infoS
  simp only [Prod.mk.injEq] at hzz
  obtain ⟨hz0, hz1, hz2⟩ := hzz
  refine wpList_append_own_at _ hgd s x 31 ho B 9 i0 (.string ⟨#[]⟩) 1 16 Tryd.underlying31 hi hz0 hz1 hz2 rfl (by decide) v ts.length (ts.map Value.string) hs (World.ownsRow.alloc hown _) ⟨W0.heap.size, 0, Option.none⟩ 1 1 [.string t] hx rfl ?_ ?_ (by unfold maxLen; omega) (by omega) (by rw [World.size_alloc]; omega) (fun v' w' h1 h2 _ h4 => h v' w' ?_ h2 (by rw [World.size_alloc] at h4; exact h4))
  · intro j u' hj
    match j, hj with
    | 0, hj => simp at hj; subst hj; exact new_cell rfl rfl
  · intro u' hu; simp at hu; subst hu; rfl
  · unfold RowS
    rw [List.length_append, List.map_append]; exact h1
theorem RowS.cells {W : World} {B : Nat} {v : Value} {ts : List ByteArray} (h : RowS W B v ts) (h0 : 0 < ts.length) : ∃ g cap, v = .slice (some ⟨g, 0, Option.none⟩) ts.length cap ∧ B ≤ g ∧ ∀ j, j < ts.length → W.cell? ⟨g, j, Option.none⟩ = some (.string (ts.getD j ByteArray.empty)) := by
  rcases h.2 with ⟨hv, hn⟩ | ⟨g, cp, cur, hv, hb, _⟩
  · omega
  · subst hv
    refine ⟨g, cp, rfl, hb, fun j hj => ?_⟩
    rw [World.ownsRow.cellAt h j (by omega), List.getElem?_map, List.getD_eq_getElem?_getD, List.getElem?_eq_getElem hj]; rfl
end Go.Proofs.YtckhdknehdjhoaaDoor
