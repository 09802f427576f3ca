/-
  THE CONTRACT OF page.Set.
-/
import Derived.Test.YtgkpbchpjgkblaaDoorPgConcat
import Derived.StillTailTactics
namespace Go.Proofs.YtgkpbchpjgkblaaDoor
open Go.RowKit
theorem grown_cell (W : World) (b i : Nat) (v : Value) : W.grownBy (W.setCell ⟨b, i, none⟩ v) (some b) := ⟨rfl, rfl, rfl, by simp, fun k _ hk => heap_setCell_other W ⟨b, i, none⟩ k v (fun e => hk (by simp [e]))⟩
theorem set3 {W w : World} {R B : Nat} {u0 u1 u2 v0 v1 v2 : Value} (hb : Below B w W) (hB : B ≤ R) (c0 : W.cell? ⟨R, 0, none⟩ = some u0) (c1 : W.cell? ⟨R, 1, none⟩ = some u1) (c2 : W.cell? ⟨R, 2, none⟩ = some u2) :
    ∃ X, X = ((W.setCell ⟨R, 0, none⟩ v0).setCell ⟨R, 1, none⟩ v1).setCell ⟨R, 2, none⟩ v2 ∧ X.cell? ⟨R, 0, none⟩ = some v0 ∧ X.cell? ⟨R, 1, none⟩ = some v1 ∧ X.cell? ⟨R, 2, none⟩ = some v2 ∧ Below B w X ∧ W.grownBy X (some R) := by
  obtain ⟨Y, hY, y0, y1, hbY⟩ := set2 (v0 := v0) (v1 := v1) hb hB c0 c1
  have n02 : (⟨R, 2, none⟩ : Addr) ≠ ⟨R, 0, none⟩ := fun e => by injection e with _ e; cases e
  have n12 : (⟨R, 2, none⟩ : Addr) ≠ ⟨R, 1, none⟩ := fun e => by injection e with _ e; cases e
  have d2 : Y.cell? ⟨R, 2, none⟩ = some u2 := by
    rw [hY, World.cell?_setCell_other _ _ _ _ (fun e => n12 e.symm), World.cell?_setCell_other _ _ _ _ (fun e => n02 e.symm)]; exact c2
  refine ⟨_, rfl, ?_, ?_, ?_, ?_, ?_⟩
  · rw [← hY, World.cell?_setCell_other _ _ _ _ n02]; exact y0
  · rw [← hY, World.cell?_setCell_other _ _ _ _ n12]; exact y1
  · rw [← hY]; exact World.cell?_setCell_same _ _ _ d2
  · rw [← hY]; exact hbY.setCell hB _
  · exact ((grown_cell W R 0 v0).trans (grown_cell _ R 1 v1)).trans (grown_cell _ R 2 v2)
theorem rise_of {l : List (ByteArray × ByteArray)} (h : cellsB l = true) : RiseL l := by
  have h1 : ∀ k, k < l.length → cellB l k = true := fun k hk => by
    unfold cellsB at h
    rw [List.all_eq_true] at h
    exact h k (List.mem_range.2 hk)
  have h2 : ∀ k, k + 1 < l.length → upC (l.getD k noCl).1 (l.getD (k + 1) noCl).1 = true := fun k hk => by
    have := h1 (k + 1) hk
    unfold cellB at this
    rw [Bool.and_eq_true, Bool.or_eq_true, decide_eq_true_iff] at this
    rcases this.2 with h | h
    · omega
    · exact h
  intro i j hij hj
  induction j with
  | zero => omega
  | succ j ih =>
    by_cases e : i = j
    · subst e; exact h2 i hj
    · exact upC_trans (ih (by omega) (by omega)) (h2 j hj)
theorem pgOk_parts {no gsn : Int} {l : List (ByteArray × ByteArray)} (h : pgOk no gsn l = true) : 0 ≤ no ∧ no < 64 ∧ 0 ≤ gsn ∧ gsn ≤ 4611686018427387903 ∧ l.length ≤ 8 ∧ cellsB l = true := by
  unfold pgOk at h
  simp only [Bool.and_eq_true, decide_eq_true_iff] at h
  obtain ⟨⟨⟨⟨⟨a, b⟩, c⟩, d⟩, e⟩, f⟩ := h
  exact ⟨a, b, c, d, e, f⟩
theorem cls_take {W : World} {a : Option Addr} {l : List (ByteArray × ByteArray)} (h : ClsAt W a l) (n : Nat) : ClsAt W a (l.take n) := by
  rcases h with rfl | ⟨b, off, e, h⟩
  · exact .inl (by simp)
  · refine .inr ⟨b, off, e, fun i hi => ?_⟩
    rw [List.length_take] at hi
    have hg : (l.take n).getD i noCl = l.getD i noCl := by
      simp only [List.getD_eq_getElem?_getD, List.getElem?_take]
      rw [if_pos (by omega)]
    rw [hg]
    exact h i (by omega)
/-- p.Cells[:n]: what it is, in any world. -/
theorem slice_to (a : Option Addr) (l : List (ByteArray × ByteArray)) (c n : Nat) (hlc : l.length ≤ c) (hn : n ≤ l.length) (hz : a = none → c = 0) :
    ∃ a1, (∀ W, (Instr.slice 22 (.slice a l.length c) none (some (.int .i64 (n : Int))) none).run Tryd.prog W = .ok (.slice a1 n c) W) ∧ (∀ W, ClsAt W a l → ClsAt W a1 (l.take n)) ∧ (a1 = none → c = 0) := by
  have e : Tryd.prog.elem 22 = 44 := by kernel_rfl
  have hr : ∀ W, (Instr.slice 22 (.slice a l.length c) none (some (.int .i64 (n : Int))) none).run Tryd.prog W = .ok (sliced a 0 n c 2) W := fun W => by
    rw [run_slice_h (P := Tryd.prog) (w := W) 22 a l.length c (by rw [e]; exact Tryd.underlying22) .i64 (n : Int) (by omega) (by omega), e, Tryd.sizeOf44, Int.toNat_natCast]; rfl
  cases a with
  | none =>
    refine ⟨none, fun W => ?_, fun W h => cls_take h n, hz⟩
    rw [hr W]
    unfold sliced
    simp
  | some ad =>
    refine ⟨some ad, fun W => ?_, fun W h => cls_take h n, fun e => by cases e⟩
    rw [hr W]
    unfold sliced
    have e0 : ad.add (0 * 2) = ad := by unfold Addr.add; split <;> simp_all
    simp [e0]
theorem cls_drop {W : World} {bb off : Nat} {l : List (ByteArray × ByteArray)} (h : ClsAt W (some ⟨bb, off, none⟩) l) (b : Nat) : ClsAt W (some ⟨bb, off + b * 2, none⟩) (l.drop b) := by
  rcases h with rfl | ⟨b', off', e, h⟩
  · exact .inl (by simp)
  · injection e with e
    injection e with e1 e2 _
    subst e1 e2
    refine .inr ⟨bb, off + b * 2, rfl, fun i hi => ?_⟩
    rw [List.length_drop] at hi
    have hg : (l.drop b).getD i noCl = l.getD (b + i) noCl := by
      simp only [List.getD_eq_getElem?_getD, List.getElem?_drop]
    obtain ⟨k1, k2⟩ := h (b + i) (by omega)
    rw [hg]
    have e : off + b * 2 + i * 2 = off + (b + i) * 2 := by omega
    rw [e]
    exact ⟨k1, k2⟩
/-- p.Cells[b:]. -/
theorem slice_from (a : Option Addr) (l : List (ByteArray × ByteArray)) (c b : Nat) (hlc : l.length ≤ c) (hb : b ≤ l.length) (hz : a = none → c = 0) :
    ∃ a1 c1, (∀ W, (Instr.slice 22 (.slice a l.length c) (some (.int .i64 (b : Int))) none none).run Tryd.prog W = .ok (.slice a1 (l.drop b).length c1) W) ∧ (∀ W, ClsAt W a l → ClsAt W a1 (l.drop b)) ∧ (a1 = none → c1 = 0) := by
  have e : Tryd.prog.elem 22 = 44 := by kernel_rfl
  have hr : ∀ W, (Instr.slice 22 (.slice a l.length c) (some (.int .i64 (b : Int))) none none).run Tryd.prog W = .ok (sliced a b l.length c 2) W := fun W => by
    rw [run_slice_l (P := Tryd.prog) (w := W) 22 a l.length c (by rw [e]; exact Tryd.underlying22) .i64 (b : Int) (by omega) (by omega), e, Tryd.sizeOf44, Int.toNat_natCast]; rfl
  rw [List.length_drop]
  by_cases hcb : c = b
  · have hd : l.drop b = [] := List.drop_eq_nil_of_le (by omega)
    refine ⟨a, c - b, fun W => ?_, fun W _ => by rw [hd]; exact .inl rfl, fun h => by rw [hz h]; simp⟩
    rw [hr W]
    unfold sliced
    cases a <;> simp [hcb]
  · cases a with
    | none => have := hz rfl; omega
    | some ad =>
      refine ⟨some (ad.add (b * 2)), c - b, fun W => ?_, fun W h => ?_, fun e => by cases e⟩
      · rw [hr W]
        unfold sliced
        simp [hcb]
      · rcases h with rfl | ⟨bb, off, e, h'⟩
        · exact .inl (by simp)
        · injection e with e
          subst e
          have ea : (⟨bb, off, none⟩ : Addr).add (b * 2) = ⟨bb, off + b * 2, none⟩ := by unfold Addr.add; split <;> simp_all
          rw [ea]
          exact cls_drop (.inr ⟨bb, off, rfl, h'⟩) b
/-- The boxes of a call of Set. -/
structure SetW (w W : World) (no gsn : Int) (a : Option Addr) (n c : Nat) (h : Bool) (s : ByteArray) : Prop where
  p0 : W.cell? ⟨w.heap.size, 0, none⟩ = some (.int .i64 no)
  p1 : W.cell? ⟨w.heap.size, 1, none⟩ = some (.int .i64 gsn)
  p2 : W.cell? ⟨w.heap.size, 2, none⟩ = some (.slice a n c)
  v0 : W.cell? ⟨w.heap.size + 1, 0, none⟩ = some (.bool h)
  v1 : W.cell? ⟨w.heap.size + 1, 1, none⟩ = some (.string s)
  r0 : W.cell? ⟨w.heap.size + 1 + 1, 0, none⟩ = some (.int .i64 0)
  r1 : W.cell? ⟨w.heap.size + 1 + 1, 1, none⟩ = some (.int .i64 0)
  r2 : W.cell? ⟨w.heap.size + 1 + 1, 2, none⟩ = some (.slice none 0 0)
  rf : ∀ i, W.frozen? ⟨w.heap.size + 1 + 1, i, none⟩ = false
  bw : Below w.heap.size w W
theorem SetW.below {w W W' : World} {no gsn : Int} {a : Option Addr} {n c : Nat} {h : Bool} {s : ByteArray} (g : SetW w W no gsn a n c h s) (hb : Below W.heap.size W W') : SetW w W' no gsn a n c h s :=
  ⟨keep_cell hb g.p0, keep_cell hb g.p1, keep_cell hb g.p2, keep_cell hb g.v0, keep_cell hb g.v1, keep_cell hb g.r0, keep_cell hb g.r1, keep_cell hb g.r2, fun i => (hb.frozen (p := ⟨w.heap.size + 1 + 1, i, none⟩) (show w.heap.size + 1 + 1 < W.heap.size from block_lt g.r0)).trans (g.rf i), g.bw.trans (hb.mono g.bw.size)⟩
def setIn (w : World) (no gsn : Int) (a : Option Addr) (n c : Nat) (h : Bool) (s : ByteArray) : World :=
  ((w.alloc (.cells #[.int .i64 no, .int .i64 gsn, .slice a n c] 24)).alloc (.cells #[.bool h, .string s] 29)).alloc (.cells #[.int .i64 0, .int .i64 0, .slice none 0 0] 24)
theorem setIn_ok (w : World) (no gsn : Int) (a : Option Addr) (n c : Nat) (h : Bool) (s : ByteArray) : SetW w (setIn w no gsn a n c h s) no gsn a n c h s := by
  unfold setIn
  refine ⟨keep_alloc (keep_alloc (new_cell rfl rfl)), keep_alloc (keep_alloc (new_cell rfl rfl)), keep_alloc (keep_alloc (new_cell rfl rfl)), keep_alloc (new_cell (by rw [World.size_alloc]) rfl), keep_alloc (new_cell (by rw [World.size_alloc]) rfl), new_cell (by rw [World.size_alloc, World.size_alloc]) rfl, new_cell (by rw [World.size_alloc, World.size_alloc]) rfl, new_cell (by rw [World.size_alloc, World.size_alloc]) rfl, fun i => World.frozen?_alloc_at _ _ _ _ (by rw [World.size_alloc, World.size_alloc]), ?_⟩
  exact (((Below.refl _ _).alloc (Nat.le_refl _) _).alloc (by rw [World.size_alloc]; omega) _).alloc (by rw [World.size_alloc, World.size_alloc]; omega) _
/-- Set answers an error, and nothing. -/
def SetNo (w : World) (err : Int) (e : Ending) (w' : World) : Prop :=
  e = .returned (.tuple #[.agg #[.int .i64 0, .int .i64 0, .slice none 0 0], .int .i64 err]) ∧ Below w.heap.size w w'
section
variable (no gsn : Int) (a : Option Addr) (l : List (ByteArray × ByteArray)) (c : Nat) (key : ByteArray) (h : Bool) (s : ByteArray) (g : Int) (w : World)
set_option maxRecDepth 100000 in
set_option maxHeartbeats 4000000 in
theorem set_bad (hn : l.length ≤ maxLen) (ha : ClsAt w a l) (hbad : pgOk no gsn l = false ∨ kyOk key = false ∨ vlOk h s = false ∨ g ≤ gsn ∨ 4611686018427387903 < g) :
    Calls Tryd.prog 15 #[.agg #[.int .i64 no, .int .i64 gsn, .slice a l.length c], .string key, .agg #[.bool h, .string s], .int .i64 g] w (SetNo w 1) := by
  have G0 := setIn_ok w no gsn a l.length c h s
  have KR := Lib.hid (right_any no gsn a l c _ hn (ha.below G0.bw))
  have KK := Lib.hid (fun W => key_one key W)
  have KV := Lib.hid (fun W => val_one h s W)
  have HS0 := Lib.hid G0
  clear ha G0
  cases hq1 : pgOk no gsn l with
  | false =>
    rw [hq1] at KR
    clear hbad hq1 KK KV
    go_enter Tryd.func15, Tryd.ntmps15
    go_wp2_with fail
    refine KR.out.mono ?_
    rintro e w5 ⟨rfl, hb5⟩
    have S5 := HS0.out.below hb5
    obtain ⟨p0, p1, p2, v0, v1, r0, r1, r2, rf, bw⟩ := S5
    go_wp2
    obtain ⟨X, hX, x0, x1, x2, hbX, _⟩ := set3 (v0 := .int .i64 0) (v1 := .int .i64 0) (v2 := .slice none 0 0) bw (by omega) r0 r1 r2
    rw [← hX]
    refine bodyPost_ret (v := .tuple #[.agg #[.int .i64 0, .int .i64 0, .slice none 0 0], .int .i64 1]) ?_ rfl ⟨rfl, hbX⟩
    simp [results, Tryd.results15, go_sem, x0, x1, x2]
  | true =>
    rw [hq1] at KR
    cases hq2 : kyOk key with
    | false =>
      have K2 := Lib.hid (fun W => KK.out W)
      rw [hq2] at K2
      clear hbad hq1 hq2 KK KV
      go_enter Tryd.func15, Tryd.ntmps15
      go_wp2_with fail
      refine KR.out.mono ?_
      rintro e w5 ⟨rfl, hb5⟩
      have S5 := Lib.hid (HS0.out.below hb5)
      clear hb5 KR
      go_wp2_with fail
      refine (K2.out _).mono ?_
      rintro e w6 ⟨rfl, hb6⟩
      have S9 := (S5.out.below ((Below.refl _ _).alloc (o := .cells #[.string key] 9) (Nat.le_refl _))).below hb6
      clear hb6 S5 K2
      obtain ⟨p0, p1, p2, v0, v1, r0, r1, r2, rf, bw⟩ := S9
      go_wp2
      obtain ⟨X, hX, x0, x1, x2, hbX, _⟩ := set3 (v0 := .int .i64 0) (v1 := .int .i64 0) (v2 := .slice none 0 0) bw (by omega) r0 r1 r2
      rw [← hX]
      refine bodyPost_ret (v := .tuple #[.agg #[.int .i64 0, .int .i64 0, .slice none 0 0], .int .i64 1]) ?_ rfl ⟨rfl, hbX⟩
      simp [results, Tryd.results15, go_sem, x0, x1, x2]
    | true =>
      have K2 := Lib.hid (fun W => KK.out W)
      rw [hq2] at K2
      cases hq3 : vlOk h s with
      | false =>
        have K3 := Lib.hid (fun W => KV.out W)
        rw [hq3] at K3
        clear hbad hq1 hq2 hq3 KK KV
        go_enter Tryd.func15, Tryd.ntmps15
        go_wp2_with fail
        refine KR.out.mono ?_
        rintro e w5 ⟨rfl, hb5⟩
        have S5 := Lib.hid (HS0.out.below hb5)
        clear hb5 KR
        go_wp2_with fail
        refine (K2.out _).mono ?_
        rintro e w6 ⟨rfl, hb6⟩
        have S6 := Lib.hid ((S5.out.below ((Below.refl _ _).alloc (o := .cells #[.string key] 9) (Nat.le_refl _))).below hb6)
        clear hb6 S5 K2
        have v0 := S6.out.v0
        have v1 := S6.out.v1
        go_wp2_with fail
        refine (K3.out _).mono ?_
        rintro e w7 ⟨rfl, hb7⟩
        have S9 := (S6.out.below ((Below.refl _ _).alloc (o := .cells #[.bool h, .string s] 29) (Nat.le_refl _))).below hb7
        clear hb7 S6 K3 v0 v1
        obtain ⟨p0, p1, p2, v0, v1, r0, r1, r2, rf, bw⟩ := S9
        go_wp2
        obtain ⟨X, hX, x0, x1, x2, hbX, _⟩ := set3 (v0 := .int .i64 0) (v1 := .int .i64 0) (v2 := .slice none 0 0) bw (by omega) r0 r1 r2
        rw [← hX]
        refine bodyPost_ret (v := .tuple #[.agg #[.int .i64 0, .int .i64 0, .slice none 0 0], .int .i64 1]) ?_ rfl ⟨rfl, hbX⟩
        simp [results, Tryd.results15, go_sem, x0, x1, x2]
      | true =>
        have K3 := Lib.hid (fun W => KV.out W)
        rw [hq3] at K3
        have hcl : g ≤ gsn ∨ (gsn < g ∧ 4611686018427387903 < g) := by
          rcases hbad with x | x | x | x | x
          · rw [hq1] at x; cases x
          · rw [hq2] at x; cases x
          · rw [hq3] at x; cases x
          · exact .inl x
          · by_cases e : g ≤ gsn
            · exact .inl e
            · exact .inr ⟨by omega, x⟩
        clear hbad hq1 hq2 hq3 KK KV
        rcases hcl with hg | ⟨hg, hg2⟩
        all_goals
          go_enter Tryd.func15, Tryd.ntmps15
          go_wp2_with fail
          refine KR.out.mono ?_
          rintro e w5 ⟨rfl, hb5⟩
          have S5 := Lib.hid (HS0.out.below hb5)
          clear hb5 KR
          go_wp2_with fail
          refine (K2.out _).mono ?_
          rintro e w6 ⟨rfl, hb6⟩
          have S6 := Lib.hid ((S5.out.below ((Below.refl _ _).alloc (o := .cells #[.string key] 9) (Nat.le_refl _))).below hb6)
          clear hb6 S5 K2
          have v0 := S6.out.v0
          have v1 := S6.out.v1
          go_wp2_with fail
          refine (K3.out _).mono ?_
          rintro e w7 ⟨rfl, hb7⟩
          have S9 := (S6.out.below ((Below.refl _ _).alloc (o := .cells #[.bool h, .string s] 29) (Nat.le_refl _))).below hb7
          clear hb7 S6 K3 v0 v1
          obtain ⟨p0, p1, p2, v0, v1, r0, r1, r2, rf, bw⟩ := S9
          go_wp2
          obtain ⟨X, hX, x0, x1, x2, hbX, _⟩ := set3 (v0 := .int .i64 0) (v1 := .int .i64 0) (v2 := .slice none 0 0) bw (by omega) r0 r1 r2
          rw [← hX]
          refine bodyPost_ret (v := .tuple #[.agg #[.int .i64 0, .int .i64 0, .slice none 0 0], .int .i64 1]) ?_ rfl ⟨rfl, hbX⟩
          simp [results, Tryd.results15, go_sem, x0, x1, x2]

/-- Where the key isn't there: with no value, or on a page that is full. -/
def SetMiss (l : List (ByteArray × ByteArray)) (h : Bool) (w : World) (e : Ending) (w' : World) : Prop :=
  (h = false ∧ SetNo w 7 e w') ∨ (h = true ∧ l.length = 8 ∧ SetNo w 4 e w')
set_option maxRecDepth 100000 in
set_option maxHeartbeats 4000000 in
theorem set_miss (hn : l.length ≤ maxLen) (ha : ClsAt w a l) (hok : pgOk no gsn l = true) (hky : kyOk key = true) (hvl : vlOk h s = true) (hg : gsn < g) (hg2 : g ≤ 4611686018427387903) (hmiss : ∀ n, PosOf l key n → foundB l key n = false) (hcase : h = false ∨ l.length = 8) :
    Calls Tryd.prog 15 #[.agg #[.int .i64 no, .int .i64 gsn, .slice a l.length c], .string key, .agg #[.bool h, .string s], .int .i64 g] w (SetMiss l h w) := by
  have G0 := setIn_ok w no gsn a l.length c h s
  have KR := Lib.hid (right_any no gsn a l c _ hn (ha.below G0.bw))
  rw [hok] at KR
  have K2 := Lib.hid (fun W => key_one key W)
  rw [hky] at K2
  have K3 := Lib.hid (fun W => val_one h s W)
  rw [hvl] at K3
  obtain ⟨_, _, _, _, h8, hcs⟩ := pgOk_parts hok
  have KF := Lib.hid (fun W (hb : Below w.heap.size w W) => find_any a l c key W (by omega) (rise_of hcs) (ha.below hb))
  have HS0 := Lib.hid G0
  have HA := Lib.hid ha
  clear ha G0 hok hky hvl hcs
  have HM := Lib.hid hmiss
  clear hmiss
  go_enter Tryd.func15, Tryd.ntmps15
  go_wp2_with fail
  refine KR.out.mono ?_
  rintro e w5 ⟨rfl, hb5⟩
  have S5 := Lib.hid (HS0.out.below hb5)
  clear hb5 KR
  go_wp2_with fail
  refine (K2.out _).mono ?_
  rintro e w6 ⟨rfl, hb6⟩
  have S6 := Lib.hid ((S5.out.below ((Below.refl _ _).alloc (o := .cells #[.string key] 9) (Nat.le_refl _))).below hb6)
  clear hb6 S5 K2
  have v0 := S6.out.v0
  have v1 := S6.out.v1
  go_wp2_with fail
  refine (K3.out _).mono ?_
  rintro e w7 ⟨rfl, hb7⟩
  have S7 := Lib.hid ((S6.out.below ((Below.refl _ _).alloc (o := .cells #[.bool h, .string s] 29) (Nat.le_refl _))).below hb7)
  clear hb7 S6 K3 v0 v1
  have p1 := S7.out.p1
  have p2 := S7.out.p2
  have K4 := Lib.hid (KF.out _ S7.out.bw)
  clear KF
  go_wp2_with fail
  refine K4.out.mono ?_
  rintro e w8 ⟨n, hp, rfl, hb8⟩
  have S8 := Lib.hid (S7.out.below hb8)
  clear hb8 S7 K4 p1 p2
  have hf := HM.out n hp
  rw [hf]
  have S9 := S8.out
  have q0 := S9.v0
  have q2 := S9.p2
  clear S8 HM hf HA HS0
  cases h with
  | false =>
    obtain ⟨p0, p1, p2, v0, v1, r0, r1, r2, rf, bw⟩ := S9
    go_wp2
    obtain ⟨X, hX, x0, x1, x2, hbX, _⟩ := set3 (v0 := .int .i64 0) (v1 := .int .i64 0) (v2 := .slice none 0 0) bw (by omega) r0 r1 r2
    rw [← hX]
    refine bodyPost_ret (v := .tuple #[.agg #[.int .i64 0, .int .i64 0, .slice none 0 0], .int .i64 7]) ?_ rfl (.inl ⟨rfl, rfl, hbX⟩)
    simp [results, Tryd.results15, go_sem, x0, x1, x2]
  | true =>
    have h88 : l.length = 8 := by
      rcases hcase with x | x
      · cases x
      · exact x
    rw [h88] at S9 q2
    obtain ⟨p0, p1, p2, v0, v1, r0, r1, r2, rf, bw⟩ := S9
    go_wp2
    obtain ⟨X, hX, x0, x1, x2, hbX, _⟩ := set3 (v0 := .int .i64 0) (v1 := .int .i64 0) (v2 := .slice none 0 0) bw (by omega) r0 r1 r2
    rw [← hX]
    refine bodyPost_ret (v := .tuple #[.agg #[.int .i64 0, .int .i64 0, .slice none 0 0], .int .i64 4]) ?_ rfl (.inr ⟨rfl, h88, rfl, hbX⟩)
    simp [results, Tryd.results15, go_sem, x0, x1, x2]
end
end Go.Proofs.YtgkpbchpjgkblaaDoor
