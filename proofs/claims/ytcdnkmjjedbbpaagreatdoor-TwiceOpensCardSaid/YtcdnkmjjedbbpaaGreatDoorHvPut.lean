/-
  THE CONTRACT OF a device's Put.
-/
import Derived.Test.YtcdnkmjjedbbpaaGreatDoorDvb
namespace Go.Proofs.YtcdnkmjjedbbpaaGreatDoor.Dv
open Go.RowKit Go.Maps Go.ChangeMaps Go.MapKept Go.WideElems
theorem join1 (s : ByteArray) : joined [s] = s.data.toList := by unfold joined; simp
theorem one_str (w : World) (s : ByteArray) (T : TypeId) : StrsAt (w.alloc (.cells #[.string s] T)) (some ⟨w.heap.size, 0, none⟩) [s] :=
  .inr ⟨w.heap.size, 0, rfl, fun i hi => by
    match i, hi with
    | 0, _ => exact new_cell rfl rfl⟩
/-- delete. -/
theorem LooseAt.dropAt {W : World} {M n : Nat} {f : Int → Option (List UInt8)} (h : LooseAt W M n f) (i : Int) (hi : (Lit.int .i64 i).wf = true) (ty : TypeId) :
    ∃ W', (Builtin.delete_ #[67, 3] ty #[.map (some M), .int .i64 i]).run Tryz.prog W = .ok (.tuple #[]) W' ∧ LooseAt W' M n (upd f i none) ∧ W.grownBy W' (some M) := by
  obtain ⟨D, h1, h2, h3⟩ := h
  have hk := keyOf_int_mk (P := Tryz.prog) Tryz.underlying3 hi
  obtain ⟨W', hrun, hown, es, clock, es', clock', hb, hw⟩ := h1.drop keyLaw Tryz.underlying67 hk ty
  refine ⟨W', hrun, ⟨_, hown, fun k => ?_, fun k m hm => ?_⟩, ?_⟩
  · unfold upd
    by_cases e : k = i
    · subst e; rw [has_del_same, if_pos rfl]; rfl
    · rw [has_del_other (by intro x; injection x with _ x; exact e x), if_neg e]; exact h2 k
  · unfold upd at hm
    by_cases e : k = i
    · rw [if_pos e] at hm; cases hm
    · rw [if_neg e] at hm
      rw [atKey_del_other (by intro x; injection x with _ x; exact e x)]; exact h3 k m hm
  · rw [hw]
    exact ⟨rfl, rfl, rfl, by simp [setBlock], fun j _ hj => heap_setBlock_other hb _ (fun e => hj (by rw [e]))⟩
section
variable {W : World} {D P L M n k : Nat} {off : Bool} {uses : Int} {armed : Bool} {left : Int} {las : List (List UInt8)} {f : Int → Option (List UInt8)}
def PutFr (W : World) (D P L M n k : Nat) (off : Bool) (uses : Int) (armed : Bool) (left : Int) (las : List (List UInt8)) (f : Int → Option (List UInt8)) (q : Nat) (l : List UInt8) (e : Ending) (w' : World) : Prop :=
  e = .returned (.int .i64 0) ∧ DevAt w' D P L M n k off uses armed left (las.set q (pad l)) (upd f (q : Int) none) ∧ Fr3 P L M W w'
set_option linter.unusedSimpArgs false in
set_option maxRecDepth 100000 in
set_option maxHeartbeats 4000000 in
theorem put_fr (h : DevAt W D P L M n k off uses armed left las f) (q : Nat) (hq : q < n) (hn : n ≤ 4096) (s : ByteArray) (hs : s.size ≤ 64) :
    Calls Tryz.prog 16 #[.pointer (some ⟨D, 0, none⟩), .int .i64 (q : Int), .string s] W (PutFr W D P L M n k off uses armed left las f q s.data.toList) := by
  have hfit : (joined [s]).length ≤ 64 := by rw [join1, ba_len]; exact hs
  have ha1 := h.below ((Below.refl _ _).alloc (o := .cells #[.string s] 9) (Nat.le_refl _))
  have hA1 : Fr3 P L M W (W.alloc (.cells #[.string s] 9)) := Fr3.of_below ((Below.refl _ _).alloc (Nat.le_refl _) _)
  have KL := Lib.hid ((lay_any (some ⟨W.heap.size, 0, none⟩) [s] 1 (W.alloc (.cells #[.string s] 9)) (by simp) (one_str _ _ _) (fun i => by
    cases i with
    | zero => show s.size ≤ _; omega
    | succ i => simp [ByteArray.size])).mono fun e w' hh => (⟨hh.1, Lib.hid (ha1.below hh.2), Lib.hid (hA1.trans (Fr3.of_below hh.2))⟩ : e = .returned (layV [s]) ∧ Hid (DevAt w' D P L M n k off uses armed left las f) ∧ Hid (Fr3 P L M W w')))
  have hC64' : (pad s.data.toList).length = 64 := pad_len (by rw [ba_len]; exact hs)
  obtain ⟨C, hC⟩ : ∃ C, C = (secC (pad s.data.toList)).toArray := ⟨_, rfl⟩
  have hlv : layV [s] = .tuple #[.agg C, .bool true] := by unfold layV; rw [if_pos hfit, hC, join1]; rfl
  rw [hlv] at KL
  have hC64 : C.size = 64 := by rw [hC, List.size_toArray, secC_len, hC64']
  have z2 : C.all (·.oneCell') = true := by rw [hC]; exact secV_one _
  have z3 : (Tryz.prog.info? 79).map (·.size) = some C.size := by rw [hC64]; exact (zero_of_info infoK).2
  have z1 : zeroC.size = C.size := by rw [hC64]; rfl
  have HC := Lib.hid hC
  have hH : hasB n (q : Int) = true := by unfold hasB; rw [decide_eq_true (by omega), decide_eq_true (by omega)]; rfl
  have hq1 : (q : Int) < (n : Int) := by omega
  have hq0 : (0 : Int) ≤ (q : Int) := by omega
  have hwq : (Lit.int .i64 (q : Int)).wf = true := WalkArith.wf_i64 (by omega)
  clear hlv hfit ha1 hA1 hC h
  go_enter Tryz.func16, Tryz.ntmps16
  go_wp2_with fail
  refine KL.out.mono ?_
  rintro x w2 ⟨rfl, hd2, hf2⟩
  have hdev2 := Lib.hid (hd2.out.below ((Below.refl _ _).alloc (o := .cells C 79) (Nat.le_refl _)))
  have hfr2 := Lib.hid (hf2.out.trans (Fr3.of_below ((Below.refl _ _).alloc (o := .cells C 79) (Nat.le_refl _))))
  have KH := Lib.hid (has_any hdev2.out (q : Int))
  rw [hH] at KH
  have hdev3 := hdev2.out.below (W' := (w2.alloc (.cells C 79)).drew) ((Below.refl _ _).drew)
  have hfr3 : Fr3 P L M W (w2.alloc (.cells C 79)).drew := hfr2.out.trans (Fr3.of_below ((Below.refl _ _).drew))
  have kst := hdev3.store q hq (pad s.data.toList) hC64'
  rw [← HC.out] at kst
  have hg4 := setRow_grown ((w2.alloc (.cells C 79)).drew) L (lasC (las.set q (pad s.data.toList))).toArray
  have hdev4 := hdev3.setLas q (pad s.data.toList) hC64'
  have hfr4 := hfr3.trans (Fr3.of_grown hg4 (fun _ e => by injection e with e; exact .inr (.inl e.symm)))
  have e1 := hdev3.d1
  have hrow : (w2.alloc (.cells C 79)).drew.heap[w2.heap.size]? = some (.cells C 79 (0, 0)) := hp_new rfl
  have hrgA : (w2.alloc (.cells C 79)).drew.rangeAt w2.heap.size 0 C.toList := fun i v hv => by
    rw [Nat.zero_add, cell_of_row _ w2.heap.size i C _ _ hrow]; simpa using hv
  generalize hW4 : ((w2.alloc (.cells C 79)).drew).setRow L (lasC (las.set q (pad s.data.toList))).toArray = W4 at kst hdev4 hfr4
  obtain ⟨W5, hdel, hm5, hg5⟩ := hdev4.mp.dropAt (q : Int) hwq 0
  have hdev5 := Lib.hid (hdev4.map hg5 hm5)
  have hfr5 := Lib.hid (hfr4.trans (Fr3.of_grown hg5 (fun _ e => by injection e with e; exact .inr (.inr e.symm))))
  have e4 := hdev4.d2
  clear hd2 hf2 hdev3 hfr3 hg4 hdev4 hfr4 hrow hW4 hm5 hg5 HC hC64 hC64' hwq hfr2 hdev2
  go_wp2_with (first
    | (refine wpList_store_row rfl 79 _ _ rfl w2.heap.size C rfl rfl 79 zeroC (hp_new rfl) z3 z1 z2 ?_; rw [World.setRow_alloc_new])
    | fail)
  refine KH.out.mono ?_
  rintro x w3 ⟨rfl, rfl⟩
  go_wp2_with fail
  refine wp_region_still_tail 6 (by kernel_rfl) (by kernel_rfl) ?_
  simp only [List.take_succ_cons, List.take_zero, List.drop_succ_cons, List.drop_zero]
  clear KH KL
  generalize hwd : (w2.alloc (.cells C 79)).drew = wd at *
  change wpStill _ _ ((w2.alloc (.cells C 79)).drew) (fun _ => wpList _ _ _ _ _ ((w2.alloc (.cells C 79)).drew)) _ _
  rw [hwd]
  still_step
  still_step
  still_step
  still_step
  still_step
  refine wpStill_load_row (by rfl) 79 _ rfl w2.heap.size 0 rfl C.toList _ hrgA Tryz.underlying79 rfl (by rw [Array.length_toList]; exact z3) ?_
  simp only [Array.toArray_toList]
  refine wpStill_nil ?_
  go_wp2_with (first
    | (refine wpList_store_eq rfl 79 _ _ rfl rfl rfl kst ?_)
    | fail)
  go_ret
  exact ⟨rfl, hdev5.out, hfr5.out⟩
end
end Go.Proofs.YtcdnkmjjedbbpaaGreatDoor.Dv
