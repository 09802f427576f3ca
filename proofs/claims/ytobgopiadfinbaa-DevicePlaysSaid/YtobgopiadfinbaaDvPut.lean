/-
  THE CONTRACTS OF a device's Put, and of New at a power that is there.
-/
import Derived.Test.YtobgopiadfinbaaDvWrite2
import Derived.Test.YtobgopiadfinbaaDvAwake
namespace Go.Proofs.Ytobgopiadfinbaa
open Go.RowKit Go.Maps Go.ChangeMaps Go.MapKept Go.WideElems
/-- delete. -/
theorem LooseAt.dropAt {W : World} {M n : Nat} {f : Int → Option (List UInt8)} (h : LooseAt W M n f) (i : Int) (hi : (Lit.int .i64 i).wf = true) (ty : TypeId) :
    ∃ W', (Builtin.delete_ #[51, 3] ty #[.map (some M), .int .i64 i]).run Try.prog W = .ok (.tuple #[]) W' ∧ LooseAt W' M n (upd f i none) ∧ W.grownBy W' (some M) := by
  obtain ⟨D, h1, h2, h3⟩ := h
  have hk := keyOf_int_mk (P := Try.prog) Try.underlying3 hi
  obtain ⟨W', hrun, hown, es, clock, es', clock', hb, hw⟩ := h1.drop keyLaw Try.underlying51 hk ty
  refine ⟨W', hrun, ⟨_, hown, fun k => ?_, fun k m hm => ?_⟩, ?_⟩
  · unfold upd
    by_cases e : k = i
    · subst e; rw [has_del_same, if_pos rfl]; rfl
    · rw [has_del_other (by intro x; injection x with _ x; exact e x), if_neg e]; exact h2 k
  · unfold upd at hm
    by_cases e : k = i
    · rw [if_pos e] at hm; cases hm
    · rw [if_neg e] at hm
      rw [atKey_del_other (by intro x; injection x with _ x; exact e x)]; exact h3 k m hm
  · rw [hw]
    exact ⟨rfl, rfl, rfl, by simp [setBlock], fun j _ hj => heap_setBlock_other hb _ (fun e => hj (by rw [e]))⟩
section
variable {W : World} {D P L M n k : Nat} {off : Bool} {uses : Int} {armed : Bool} {left : Int} {las : List (List UInt8)} {f : Int → Option (List UInt8)}
def PutFr (W : World) (D P L M n k : Nat) (off : Bool) (uses : Int) (armed : Bool) (left : Int) (las : List (List UInt8)) (f : Int → Option (List UInt8)) (q : Nat) (l : List UInt8) (e : Ending) (w' : World) : Prop :=
  e = .returned (.int .i64 0) ∧ DevAt w' D P L M n k off uses armed left (las.set q (pad l)) (upd f (q : Int) none) ∧ Fr3 P L M W w'
set_option linter.unusedSimpArgs false in
set_option maxRecDepth 100000 in
set_option maxHeartbeats 4000000 in
theorem put_fr (h : DevAt W D P L M n k off uses armed left las f) (q : Nat) (hq : q < n) (hn : n ≤ 4096) (s : ByteArray) (hs : s.size ≤ 64) :
    Calls Try.prog 24 #[.pointer (some ⟨D, 0, none⟩), .int .i64 (q : Int), .string s] W (PutFr W D P L M n k off uses armed left las f q s.data.toList) := by
  have hfit : (joined [s]).length ≤ 64 := by rw [join1, ba_len]; exact hs
  have ha1 := h.below ((Below.refl _ _).alloc (o := .cells #[.string s] 9) (Nat.le_refl _))
  have hA1 : Fr3 P L M W (W.alloc (.cells #[.string s] 9)) := Fr3.of_below ((Below.refl _ _).alloc (Nat.le_refl _) _)
  have KL := Lib.hid ((lay_any (some ⟨W.heap.size, 0, none⟩) [s] 1 (W.alloc (.cells #[.string s] 9)) (by simp) (one_str _ _ _) (fun i => by
    cases i with
    | zero => show s.size ≤ _; omega
    | succ i => simp [ByteArray.size])).mono fun e w' hh => (⟨hh.1, Lib.hid (ha1.below hh.2), Lib.hid (hA1.trans (Fr3.of_below hh.2))⟩ : e = .returned (layV [s]) ∧ Hid (DevAt w' D P L M n k off uses armed left las f) ∧ Hid (Fr3 P L M W w')))
  have hC64' : (pad s.data.toList).length = 64 := pad_len (by rw [ba_len]; exact hs)
  obtain ⟨C, hC⟩ : ∃ C, C = (secC (pad s.data.toList)).toArray := ⟨_, rfl⟩
  have hlv : layV [s] = .tuple #[.agg C, .bool true] := by unfold layV; rw [if_pos hfit, hC, join1]; rfl
  rw [hlv] at KL
  have hC64 : C.size = 64 := by rw [hC, List.size_toArray, secC_len, hC64']
  have z2 : C.all (·.oneCell') = true := by rw [hC]; exact secV_one _
  have z3 : (Try.prog.info? 66).map (·.size) = some C.size := by rw [hC64]; exact (zero_of_info infoK).2
  have z1 : zeroC.size = C.size := by rw [hC64]; rfl
  have HC := Lib.hid hC
  have hH : hasB n (q : Int) = true := by unfold hasB; rw [decide_eq_true (by omega), decide_eq_true (by omega)]; rfl
  have hq1 : (q : Int) < (n : Int) := by omega
  have hq0 : (0 : Int) ≤ (q : Int) := by omega
  have hwq : (Lit.int .i64 (q : Int)).wf = true := WalkArith.wf_i64 (by omega)
  clear hlv hfit ha1 hA1 hC h
  go_enter Try.func24, Try.ntmps24
  go_wp2_with fail
  refine KL.out.mono ?_
  rintro x w2 ⟨rfl, hd2, hf2⟩
  have hdev2 := Lib.hid (hd2.out.below ((Below.refl _ _).alloc (o := .cells C 66) (Nat.le_refl _)))
  have hfr2 := Lib.hid (hf2.out.trans (Fr3.of_below ((Below.refl _ _).alloc (o := .cells C 66) (Nat.le_refl _))))
  have KH := Lib.hid (has_any hdev2.out (q : Int))
  rw [hH] at KH
  have hdev3 := hdev2.out.below (W' := (w2.alloc (.cells C 66)).drew) ((Below.refl _ _).drew)
  have hfr3 : Fr3 P L M W (w2.alloc (.cells C 66)).drew := hfr2.out.trans (Fr3.of_below ((Below.refl _ _).drew))
  have kst := hdev3.store q hq (pad s.data.toList) hC64'
  rw [← HC.out] at kst
  have hg4 := setRow_grown ((w2.alloc (.cells C 66)).drew) L (lasC (las.set q (pad s.data.toList))).toArray
  have hdev4 := hdev3.setLas q (pad s.data.toList) hC64'
  have hfr4 := hfr3.trans (Fr3.of_grown hg4 (fun _ e => by injection e with e; exact .inr (.inl e.symm)))
  have e1 := hdev3.d1
  have hrow : (w2.alloc (.cells C 66)).drew.heap[w2.heap.size]? = some (.cells C 66 (0, 0)) := hp_new rfl
  have hrgA : (w2.alloc (.cells C 66)).drew.rangeAt w2.heap.size 0 C.toList := fun i v hv => by
    rw [Nat.zero_add, cell_of_row _ w2.heap.size i C _ _ hrow]; simpa using hv
  generalize hW4 : ((w2.alloc (.cells C 66)).drew).setRow L (lasC (las.set q (pad s.data.toList))).toArray = W4 at kst hdev4 hfr4
  obtain ⟨W5, hdel, hm5, hg5⟩ := hdev4.mp.dropAt (q : Int) hwq 0
  have hdev5 := Lib.hid (hdev4.map hg5 hm5)
  have hfr5 := Lib.hid (hfr4.trans (Fr3.of_grown hg5 (fun _ e => by injection e with e; exact .inr (.inr e.symm))))
  have e4 := hdev4.d2
  clear hd2 hf2 hdev3 hfr3 hg4 hdev4 hfr4 hrow hW4 hm5 hg5 HC hC64 hC64' hwq hfr2 hdev2
  go_wp2_with (first
    | (refine wpList_store_row rfl 66 _ _ rfl w2.heap.size C rfl rfl 66 zeroC (hp_new rfl) z3 z1 z2 ?_; rw [World.setRow_alloc_new])
    | fail)
  refine KH.out.mono ?_
  rintro x w3 ⟨rfl, rfl⟩
  go_wp2_with fail
  refine wp_region_still_tail 6 (by kernel_rfl) (by kernel_rfl) ?_
  simp only [List.take_succ_cons, List.take_zero, List.drop_succ_cons, List.drop_zero]
  clear KH KL
  generalize hwd : (w2.alloc (.cells C 66)).drew = wd at *
  change wpStill _ _ ((w2.alloc (.cells C 66)).drew) (fun _ => wpList _ _ _ _ _ ((w2.alloc (.cells C 66)).drew)) _ _
  rw [hwd]
  still_step
  still_step
  still_step
  still_step
  still_step
  refine wpStill_load_row (by rfl) 66 _ rfl w2.heap.size 0 rfl C.toList _ hrgA Try.underlying66 rfl (by rw [Array.length_toList]; exact z3) ?_
  simp only [Array.toArray_toList]
  refine wpStill_nil ?_
  go_wp2_with (first
    | (refine wpList_store_eq rfl 66 _ _ rfl rfl rfl kst ?_)
    | fail)
  go_ret
  exact ⟨rfl, hdev5.out, hfr5.out⟩
def PutNo (W : World) (D P L M n k : Nat) (off : Bool) (uses : Int) (armed : Bool) (left : Int) (las : List (List UInt8)) (f : Int → Option (List UInt8)) (e : Ending) (w' : World) : Prop :=
  e = .returned (.int .i64 1) ∧ DevAt w' D P L M n k off uses armed left las f ∧ Fr3 P L M W w'
set_option maxHeartbeats 1000000 in
theorem put_no (h : DevAt W D P L M n k off uses armed left las f) (i : Int) (s : ByteArray) (hs : s.size ≤ 1000) (hno : 64 < s.size ∨ hasB n i = false) :
    Calls Try.prog 24 #[.pointer (some ⟨D, 0, none⟩), .int .i64 i, .string s] W (PutNo W D P L M n k off uses armed left las f) := by
  have ha1 := h.below ((Below.refl _ _).alloc (o := .cells #[.string s] 9) (Nat.le_refl _))
  have hA1 : Fr3 P L M W (W.alloc (.cells #[.string s] 9)) := Fr3.of_below ((Below.refl _ _).alloc (Nat.le_refl _) _)
  have KL := Lib.hid ((lay_any (some ⟨W.heap.size, 0, none⟩) [s] 1 (W.alloc (.cells #[.string s] 9)) (by simp) (one_str _ _ _) (fun i => by
    cases i with
    | zero => show s.size ≤ _; omega
    | succ i => simp [ByteArray.size])).mono fun e w' hh => (⟨hh.1, Lib.hid (ha1.below hh.2), Lib.hid (hA1.trans (Fr3.of_below hh.2))⟩ : e = .returned (layV [s]) ∧ Hid (DevAt w' D P L M n k off uses armed left las f) ∧ Hid (Fr3 P L M W w')))
  have hV : ∃ (l0 : List UInt8) (b : Bool), l0.length = 64 ∧ layV [s] = .tuple #[.agg (secC l0).toArray, .bool b] ∧ (b = true → hasB n i = false) := by
    unfold layV
    by_cases h : (joined [s]).length ≤ 64
    · rw [if_pos h]
      refine ⟨_, true, pad_len h, rfl, fun _ => ?_⟩
      rcases hno with hno | hno
      · rw [join1, ba_len] at h; omega
      · exact hno
    · rw [if_neg h]; exact ⟨_, false, pad_len (by decide), rfl, fun e => by cases e⟩
  obtain ⟨l0, b, hl0, hlv, hbn⟩ := hV
  rw [hlv] at KL
  have hC64 : (secC l0).toArray.size = 64 := by rw [List.size_toArray, secC_len, hl0]
  have z2 : (secC l0).toArray.all (·.oneCell') = true := secV_one _
  generalize (secC l0).toArray = C at KL hC64 z2
  have z3 : (Try.prog.info? 66).map (·.size) = some C.size := by rw [hC64]; exact (zero_of_info infoK).2
  have z1 : zeroC.size = C.size := by rw [hC64]; rfl
  clear hlv hl0 hC64 ha1 hA1 h
  cases b with
  | true =>
    have hH := hbn rfl
    clear hbn hno
    go_enter Try.func24, Try.ntmps24
    go_wp2_with fail
    refine KL.out.mono ?_
    rintro x w2 ⟨rfl, hd2, hf2⟩
    have hd3 := Lib.hid (hd2.out.below ((Below.refl _ _).alloc (o := .cells C 66) (Nat.le_refl _)))
    have hf3 := Lib.hid (hf2.out.trans (Fr3.of_below ((Below.refl _ _).alloc (o := .cells C 66) (Nat.le_refl _))))
    have KH := Lib.hid (has_any hd3.out i)
    rw [hH] at KH
    clear hd2 hf2
    go_wp2_with (first
      | (refine wpList_store_row rfl 66 _ _ rfl w2.heap.size C rfl rfl 66 zeroC (hp_new rfl) z3 z1 z2 ?_; rw [World.setRow_alloc_new])
      | fail)
    refine KH.out.mono ?_
    rintro x w3 ⟨rfl, rfl⟩
    go_wp2
    go_ret
    exact ⟨rfl, hd3.out, hf3.out⟩
  | false =>
    clear hbn hno
    go_enter Try.func24, Try.ntmps24
    go_wp2_with fail
    refine KL.out.mono ?_
    rintro x w2 ⟨rfl, hd2, hf2⟩
    have hd3 := Lib.hid (hd2.out.below ((Below.refl _ _).alloc (o := .cells C 66) (Nat.le_refl _)))
    have hf3 := Lib.hid (hf2.out.trans (Fr3.of_below ((Below.refl _ _).alloc (o := .cells C 66) (Nat.le_refl _))))
    clear hd2 hf2
    go_wp2_with (first
      | (refine wpList_store_row rfl 66 _ _ rfl w2.heap.size C rfl rfl 66 zeroC (hp_new rfl) z3 z1 z2 ?_; rw [World.setRow_alloc_new])
      | fail)
    go_ret
    exact ⟨rfl, hd3.out, hf3.out⟩
end
/-- A power in memory, on, not armed. -/
structure PowAt (W : World) (P : Nat) (uses left : Int) : Prop where
  p0 : W.cell? ⟨P, 0, none⟩ = some (.bool false)
  p1 : W.cell? ⟨P, 1, none⟩ = some (.int .i64 uses)
  p2 : W.cell? ⟨P, 2, none⟩ = some (.bool false)
  p3 : W.cell? ⟨P, 3, none⟩ = some (.int .i64 left)
  pf : ∀ i, W.frozen? ⟨P, i, none⟩ = false
set_option maxHeartbeats 1000000 in
theorem new_at (n : Nat) (w : World) (P : Nat) (uses left : Int) (hp : PowAt w P uses left) (h1 : 1 ≤ n) (h2 : n ≤ 4096) : Calls Try.prog 6 #[.pointer (some ⟨P, 0, none⟩), .int .i64 (n : Int)] w fun e w' => ∃ D L M, e = .returned (.pointer (some ⟨D, 0, none⟩)) ∧ Hid (DevAt w' D P L M n 0 false uses false left (List.replicate n blank64) (fun _ => none)) ∧ Hid (Below w.heap.size w w') ∧ w.heap.size ≤ D ∧ w.heap.size ≤ L ∧ w.heap.size ≤ M := by
  have hmk := make_las n h2
  have hmm := @run_makeMap Try.prog
  have b1 : (1 : Int) ≤ (n : Int) := by omega
  have b2 : (n : Int) ≤ 4096 := by omega
  have hPl : P < w.heap.size := block_lt (p := ⟨P, 0, none⟩) hp.p0
  generalize hC : (lasC (List.replicate n blank64)).toArray = C at hmk
  have HC := Lib.hid hC; clear hC
  have HP := Lib.hid hp; clear hp
  go_enter Try.func6, Try.ntmps6
  go_wp2
  go_ret
  have hb : Below w.heap.size w (((w.alloc (.cells C 66)).alloc (.map #[] 0)).alloc (.cells #[.pointer (some ⟨P, 0, none⟩), .slice (some ⟨w.heap.size, 0, none⟩) n n, .map (some (w.heap.size + 1))] 53)) :=
    (((Below.refl _ w).alloc (Nat.le_refl _) _).alloc (by simp only [World.size_alloc]; omega) _).alloc (by simp only [World.size_alloc]; omega) _
  refine ⟨w.heap.size + 1 + 1, w.heap.size, w.heap.size + 1, rfl, ⟨?_, ?_, ?_, ?_, ?_, ?_, ?_, ?_, ?_, ?_, ?_, ?_, ?_, ?_, ?_, ?_, ?_, ?_⟩, hb, by omega, by omega, by omega⟩
  · exact new_cell (by simp only [World.size_alloc]) rfl
  · exact new_cell (by simp only [World.size_alloc]) rfl
  · exact new_cell (by simp only [World.size_alloc]) rfl
  · exact keep_cell hb HP.out.p0
  · exact keep_cell hb HP.out.p1
  · exact keep_cell hb HP.out.p2
  · exact keep_cell hb HP.out.p3
  · exact fun i => (hb.frozen (p := ⟨P, i, none⟩) hPl).trans (HP.out.pf i)
  · rw [← HC.out] at hb ⊢
    exact hp_old (hp_old (hp_new rfl))
  · exact List.length_replicate
  · intro l hl
    rw [List.eq_of_mem_replicate hl]; exact blank64_len
  · have h := (LooseAt.made (w.alloc (.cells C 66)))
    simp only [World.size_alloc] at h
    exact h.below ((Below.refl _ _).alloc (Nat.le_refl _) _)
  all_goals omega
end Go.Proofs.Ytobgopiadfinbaa
