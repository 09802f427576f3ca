/-
  THE CONTRACT OF a device's Crash.
-/
import Derived.Test.YtobgopiadfinbaaDvFr
import Derived.Maps.AppendAt
namespace Go.Proofs.Ytobgopiadfinbaa
open Go.RowKit
section
variable {W : World} {D P L M n k : Nat} {off : Bool} {uses : Int} {armed : Bool} {left : Int} {las : List (List UInt8)} {f : Int → Option (List UInt8)}
/-- The state of Crash's loop. -/
structure CrSt (B : Nat) (W wr : World) (D P L M n k : Nat) (off : Bool) (uses : Int) (armed : Bool) (left : Int) (las : List (List UInt8)) (f : Int → Option (List UInt8)) : Prop where
  dev : DevAt wr D P L M n k off uses armed left las f
  bel : Below B W wr
  gr : W.grownBy wr (some L)
def CrashPost (B : Nat) (W : World) (D P L M n k : Nat) (uses left : Int) (las : List (List UInt8)) (e : Ending) (w' : World) : Prop :=
  e = .returned (.tuple #[]) ∧ DevAt w' D P L M n k false uses false left las (fun _ => none) ∧ Below B W w'
def CrashFr (B : Nat) (W : World) (D P L M n k : Nat) (uses left : Int) (las : List (List UInt8)) (e : Ending) (w' : World) : Prop :=
  e = .returned (.tuple #[]) ∧ DevAt w' D P L M n k false uses false left las (fun _ => none) ∧ Below B W w' ∧ Fr3 P L M W w'
set_option linter.unusedSimpArgs false in
set_option maxRecDepth 100000 in
set_option maxHeartbeats 4000000 in
theorem crash_fr {B : Nat} (h : DevAt W D P L M n k off uses armed left las f) (hf : ∀ z l, f z = some l → 0 ≤ z ∧ z < (n : Int) ∧ l.length = 64) (hB : B ≤ P ∧ B ≤ L ∧ B ≤ M) (hBW : B ≤ W.heap.size)
    (ka : Option Addr) (ks : List Int) (c : Nat) (hl : ks.length ≤ 1000000) (hw : ∀ z ∈ ks, (Lit.int .i64 z).wf = true) (hka : IntsIn W ka L ks) :
    Calls Try.prog 14 #[.pointer (some ⟨D, 0, none⟩), .slice ka ks.length c] W (CrashFr B W D P L M n k uses left (keepLas f las ks)) := by
  have HF := Lib.hid hf; clear hf
  have HK := Lib.hid hka; clear hka
  have HW := Lib.hid hw; clear hw
  have hS : CrSt B W W D P L M n k off uses armed left (keepLas f las (ks.take 0)) f := ⟨h, Below.refl _ _, ⟨rfl, rfl, rfl, Nat.le_refl _, fun _ _ _ => rfl⟩⟩
  have HS := Lib.hid hS
  clear hS h
  go_enter Try.func14, Try.ntmps14
  go_wp2
  go_loopw [12, 5] (fun i _ wr => ∃ j : Nat, j ≤ ks.length ∧ i = .int .i64 j ∧ Hid (CrSt B W wr D P L M n k off uses armed left (keepLas f las (ks.take j)) f)) (fun i _ _ => ks.length - (intOf i).toNat)
  case atStart => exact ⟨0, Nat.zero_le _, rfl, HS.out⟩
  case round =>
    obtain ⟨j, hj, rfl, hst⟩ := hrel
    have hd1 := hst.out.dev.d1
    have hd2 := hst.out.dev.d2
    have hd0 := hst.out.dev.d0
    by_cases hlt : j < ks.length
    · obtain ⟨b, o, rfl, hbB, hc0⟩ := HK.out.resolve_left (by intro e; rw [e] at hlt; simp at hlt)
      have hc := cell_apart hst.out.gr (p := ⟨b, o + j, none⟩) hbB (hc0 j hlt)
      clear hc0
      have hmem : ks.getD j 0 ∈ ks := by rw [List.getD_eq_getElem?_getD, List.getElem?_eq_getElem hlt]; exact List.getElem_mem _
      have hwf := HW.out _ hmem
      have hsn := keepLas_snoc f las (ks.take j) (ks.getD j 0)
      rw [← take_one ks j hlt] at hsn
      have HN := Lib.hid hsn
      clear hsn hmem
      generalize ks.getD j 0 = z at hc hwf HN
      have klk := hst.out.dev.mp.look z hwf
      have hj0 : (0 : Int) ≤ (j : Int) := by omega
      have hj1 : (j : Int) < (ks.length : Int) := by omega
      have hsz := hst.out.bel.size
      obtain ⟨l0, hl0, hlv, hnew⟩ : ∃ l0 : List UInt8, l0.length = 64 ∧ lookV f z = .tuple #[.agg (secC l0).toArray, .bool (f z).isSome] ∧ ∀ x, f z = some x → x = l0 := by
        unfold lookV
        cases hfz : f z with
        | none => exact ⟨blank64, blank64_len, rfl, fun x hx => by cases hx⟩
        | some x => exact ⟨x, (HF.out z x hfz).2.2, rfl, fun y hy => by cases hy; rfl⟩
      rw [hlv] at klk
      have hC64 : (secC l0).toArray.size = 64 := by rw [List.size_toArray, secC_len, hl0]
      have z2 : (secC l0).toArray.all (·.oneCell') = true := secV_one _
      have hlist : (secC l0).toArray.toList = secC l0 := by simp
      obtain ⟨C, hC⟩ : ∃ C, C = (secC l0).toArray := ⟨_, rfl⟩
      rw [← hC] at klk hC64 z2 hlist
      have z3 : (Try.prog.info? 66).map (·.size) = some C.size := by rw [hC64]; exact (zero_of_info infoK).2
      have z1 : zeroC.size = C.size := by rw [hC64]; rfl
      have hdev2 := hst.out.dev.below ((Below.refl _ _).alloc (o := .cells C 66) (Nat.le_refl _))
      have hgr2 : W.grownBy (wr.alloc (.cells C 66)) (some L) := hst.out.gr.trans (World.grownBy_alloc _ _ _)
      have hbel2 : Below B W (wr.alloc (.cells C 66)) := hst.out.bel.alloc (Nat.le_trans hBW hsz) _
      cases hfz : f z with
      | none =>
        rw [hfz] at klk HN
        have hfalse : (none : Option (List UInt8)).isSome = false := rfl
        rw [hfalse] at klk
        have hst2 : Hid (CrSt B W (wr.alloc (.cells C 66)) D P L M n k off uses armed left (keepLas f las (ks.take (j + 1))) f) := by
          rw [Hid, HN.out]; exact ⟨hdev2, hbel2, hgr2⟩
        clear hst hdev2 hbel2 hgr2 HN hlv hnew hfz hC hlist
        go_wp2_with (first
          | (refine wpList_store_row rfl 66 _ _ rfl wr.heap.size C rfl rfl 66 zeroC (hp_new rfl) z3 z1 z2 ?_; rw [World.setRow_alloc_new])
          | fail)
        go_roundw
        case rel => exact ⟨j + 1, by omega, by go_num, hst2⟩
        case measure => simp [intOf]; omega
      | some x =>
        obtain ⟨q0, q1, q2⟩ := HF.out z x hfz
        obtain ⟨q, rfl⟩ := Int.eq_ofNat_of_zero_le q0
        have hx := hnew x hfz
        rw [hfz] at klk HN
        have htrue : (some x : Option (List UInt8)).isSome = true := rfl
        rw [htrue] at klk
        have hdev3 := hdev2.below (W' := (wr.alloc (.cells C 66)).drew) ((Below.refl _ _).drew)
        have kst := hdev3.store q (by omega) l0 hl0
        rw [← hC] at kst
        have hgd2 : W.grownBy (wr.alloc (.cells C 66)).drew (some L) := hgr2.trans ⟨rfl, rfl, rfl, Nat.le_refl _, fun _ _ _ => rfl⟩
        have hg4 := setRow_grown ((wr.alloc (.cells C 66)).drew) L (lasC ((keepLas f las (ks.take j)).set q l0)).toArray
        have hdev4 := hdev3.setLas q l0 hl0
        have hbel4 := (hbel2.drew).grown hg4 (Nat.le_trans hBW (by show W.heap.size ≤ _; exact hbel2.size)) (fun k hk => by cases hk; exact hB.2.1)
        have e1 := hdev3.d1
        have e2 := hdev4.d1
        have hrow : (wr.alloc (.cells C 66)).drew.heap[wr.heap.size]? = some (.cells C 66 (0, 0)) := hp_new rfl
        have hrg : (wr.alloc (.cells C 66)).drew.rangeAt wr.heap.size 0 C.toList := fun i v hv => by
          rw [Nat.zero_add, cell_of_row _ wr.heap.size i C _ _ hrow]; simpa using hv
        have hLb : L < wr.heap.size := blk_lt hst.out.dev.lb
        have hst2 : Hid (CrSt B W (((wr.alloc (.cells C 66)).drew).setRow L (lasC ((keepLas f las (ks.take j)).set q l0)).toArray) D P L M n k off uses armed left (keepLas f las (ks.take (j + 1))) f) := by
          have hn2 := HN.out
          simp only [Int.toNat_natCast] at hn2
          rw [Hid, hn2, hx]; exact ⟨hdev4, hbel4, hgd2.trans hg4⟩
        generalize (lasC ((keepLas f las (ks.take j)).set q l0)).toArray = LC at kst hg4 hst2 e2
        have hrg2 : (((wr.alloc (.cells C 66)).drew).setRow L LC).rangeAt wr.heap.size 0 C.toList := fun i v hv => cell_apart hg4 (fun e => by simp only at e; omega) (hrg i v hv)
        have hq1 : (q : Int) < (n : Int) := by omega
        have hq0 : (0 : Int) ≤ (q : Int) := by omega
        clear hst hdev2 hdev3 hbel2 hgr2 hdev4 hbel4 HN hlv hnew hfz hC hlist hg4 hgd2 hx hrow q0 q1 q2 e2 hrg2 hLb
        go_wp2_with (first
          | (refine wpList_store_row rfl 66 _ _ rfl wr.heap.size C rfl rfl 66 zeroC (hp_new rfl) z3 z1 z2 ?_; rw [World.setRow_alloc_new])
          | fail)
        refine wp_region_still_tail 6 (by kernel_rfl) (by kernel_rfl) ?_
        simp only [List.take_succ_cons, List.take_zero, List.drop_succ_cons, List.drop_zero]
        generalize hwd : (wr.alloc (.cells C 66)).drew = wd at *
        change wpStill _ _ ((wr.alloc (.cells C 66)).drew) (fun _ => wpList _ _ _ _ _ ((wr.alloc (.cells C 66)).drew)) _ _
        rw [hwd]
        still_step
        still_step
        still_step
        still_step
        still_step
        refine wpStill_load_row (by rfl) 66 _ rfl wr.heap.size 0 rfl C.toList _ hrg Try.underlying66 rfl (by rw [Array.length_toList]; exact z3) ?_
        simp only [Array.toArray_toList]
        refine wpStill_nil ?_
        go_wp2_with (first
          | (refine wpList_store_eq rfl 66 _ _ rfl rfl rfl kst ?_)
          | fail)
        go_roundw
        case rel => exact ⟨j + 1, by omega, by go_num, hst2⟩
        case measure => simp [intOf]; omega
    · have hje : j = ks.length := by omega
      subst hje
      rw [List.take_length] at hst
      obtain ⟨w2, hwipe, hm2, hg2⟩ := hst.out.dev.mp.wipe 0
      have hd2' := hst.out.dev.map hg2 hm2
      have hb2 : Below B W w2 := hst.out.bel.grown hg2 (Nat.le_trans hBW hst.out.bel.size) (fun k hk => by cases hk; exact hB.2.2)
      have hf2 : Fr3 P L M W w2 := (Fr3.of_grown hst.out.gr (fun _ e => by injection e with e; exact .inr (.inl e.symm))).trans (Fr3.of_grown hg2 (fun _ e => by injection e with e; exact .inr (.inr e.symm)))
      have KG := Lib.hid ((again_any hd2').mono fun e w' hh => (⟨hh.1, by rw [hh.2]; exact Lib.hid ⟨(((hd2'.pow).1 false).pow).2.2.1 false, (hb2.setCell hB.1 _).setCell hB.1 _, (hf2.trans (Fr3.setP _ _ _)).trans (Fr3.setP _ _ _)⟩⟩ : e = .returned (.tuple #[]) ∧ Hid (DevAt w' D P L M n k false uses false left (keepLas f las ks) (fun _ => none) ∧ Below B W w' ∧ Fr3 P L M W w')))
      have e0 := hd2'.d0
      clear hst hd2' hb2 hm2 hg2 hf2
      go_wp2_with fail
      refine KG.out.mono ?_
      rintro e w' ⟨rfl, h1⟩
      go_wp2
      exact bodyPost_end (v := .tuple #[]) (by simp [results, Try.results14]) rfl ⟨rfl, h1.out.1, h1.out.2.1, h1.out.2.2⟩
theorem crash_any {B : Nat} (h : DevAt W D P L M n k off uses armed left las f) (hf : ∀ z l, f z = some l → 0 ≤ z ∧ z < (n : Int) ∧ l.length = 64) (hB : B ≤ P ∧ B ≤ L ∧ B ≤ M) (hBW : B ≤ W.heap.size)
    (ka : Option Addr) (ks : List Int) (c : Nat) (hl : ks.length ≤ 1000000) (hw : ∀ z ∈ ks, (Lit.int .i64 z).wf = true) (hka : IntsIn W ka L ks) :
    Calls Try.prog 14 #[.pointer (some ⟨D, 0, none⟩), .slice ka ks.length c] W (CrashPost B W D P L M n k uses left (keepLas f las ks)) :=
  (crash_fr h hf hB hBW ka ks c hl hw hka).mono fun _ _ ⟨a, b, c, _⟩ => ⟨a, b, c⟩
end
end Go.Proofs.Ytobgopiadfinbaa
