/-
  THE CONTRACTS OF page.Get, of the reference's Get, of the reference's Great.
-/
import Derived.Test.YtgkpbchpjgkblaaDoorPgBase
namespace Go.Proofs.YtgkpbchpjgkblaaDoor
open Go.RowKit
theorem hp_new {W : World} {o : Obj} {n : Nat} (h : n = W.heap.size) : (W.alloc o).heap[n]? = some o := by
  subst h
  show (W.heap.push o)[W.heap.size]? = _
  rw [Array.getElem?_push, if_pos rfl]
theorem new_cell {W : World} {cs : Array Value} {T : TypeId} {g i : Nat} {v : Value} (hg : g = W.heap.size) (hv : cs[i]? = some v) : (W.alloc (.cells cs T)).cell? ⟨g, i, none⟩ = some v := by
  subst hg
  rw [cell_of_row _ W.heap.size i cs T (0, 0) (hp_new rfl)]; exact hv
theorem keep_alloc {W : World} {o : Obj} {p : Addr} {v : Value} (hc : W.cell? p = some v) : (W.alloc o).cell? p = some v :=
  (World.cell?_of_block (by
    have hlt := block_lt hc
    show (W.heap.push o)[p.block]? = W.heap[p.block]?
    rw [Array.getElem?_push, if_neg (by omega)])).trans hc
theorem set2 {W w : World} {R B : Nat} {u0 u1 v0 v1 : Value} (hb : Below B w W) (hB : B ≤ R) (c0 : W.cell? ⟨R, 0, none⟩ = some u0) (c1 : W.cell? ⟨R, 1, none⟩ = some u1) :
    ∃ X, X = (W.setCell ⟨R, 0, none⟩ v0).setCell ⟨R, 1, none⟩ v1 ∧ X.cell? ⟨R, 0, none⟩ = some v0 ∧ X.cell? ⟨R, 1, none⟩ = some v1 ∧ Below B w X := by
  have hne : (⟨R, 1, none⟩ : Addr) ≠ ⟨R, 0, none⟩ := fun e => by injection e with _ e; cases e
  have d1 : (W.setCell ⟨R, 0, none⟩ v0).cell? ⟨R, 1, none⟩ = some u1 := by rw [World.cell?_setCell_other _ _ _ _ (fun e => hne e.symm)]; exact c1
  refine ⟨_, rfl, ?_, World.cell?_setCell_same _ _ _ d1, (hb.setCell hB _).setCell hB _⟩
  rw [World.cell?_setCell_other _ _ _ _ hne]
  exact World.cell?_setCell_same _ _ _ c0
/-- The value of the first cell of a key. -/
def clGet : List (ByteArray × ByteArray) → ByteArray → Bool × ByteArray
  | [], _ => (false, ⟨#[]⟩)
  | c :: l, k => if c.1 = k then (true, c.2) else clGet l k
theorem clGet_drop {l : List (ByteArray × ByteArray)} {key : ByteArray} {k : Nat} (hk : k < l.length) : clGet (l.drop k) key = if (l.getD k noCl).1 = key then (true, (l.getD k noCl).2) else clGet (l.drop (k + 1)) key := by
  rw [List.drop_eq_getElem_cons hk, clGet, List.getD_eq_getElem?_getD, List.getElem?_eq_getElem hk]; rfl
section
set_option maxHeartbeats 2000000 in
theorem get_any (no gsn : Int) (a : Option Addr) (l : List (ByteArray × ByteArray)) (c : Nat) (key : ByteArray) (w : World) (hn : l.length ≤ 1000000) (ha : ClsAt w a l) :
    Calls Tryd.prog 13 #[.agg #[.int .i64 no, .int .i64 gsn, .slice a l.length c], .string key] w fun e w' => e = .returned (.agg #[.bool (clGet l key).1, .string (clGet l key).2]) ∧ Below w.heap.size w w' := by
  have KH := Lib.hid has_any
  have hb0 : Below w.heap.size w ((w.alloc (.cells #[.int .i64 no, .int .i64 gsn, .slice a l.length c] 24)).alloc (.cells #[.bool false, .string ⟨#[]⟩] 29)) := ((Below.refl _ _).alloc (Nat.le_refl _) _).alloc (by rw [World.size_alloc]; omega) _
  have HA := Lib.hid (ha.below hb0)
  have z0 := Lib.hid (new_cell (W := w.alloc (.cells #[.int .i64 no, .int .i64 gsn, .slice a l.length c] 24)) (cs := #[.bool false, .string ⟨#[]⟩]) (T := 29) (g := w.heap.size + 1) (i := 0) (v := .bool false) (by rw [World.size_alloc]) rfl)
  have z1 := Lib.hid (new_cell (W := w.alloc (.cells #[.int .i64 no, .int .i64 gsn, .slice a l.length c] 24)) (cs := #[.bool false, .string ⟨#[]⟩]) (T := 29) (g := w.heap.size + 1) (i := 1) (v := .string ⟨#[]⟩) (by rw [World.size_alloc]) rfl)
  have zf : ∀ i, ((w.alloc (.cells #[.int .i64 no, .int .i64 gsn, .slice a l.length c] 24)).alloc (.cells #[.bool false, .string ⟨#[]⟩] 29)).frozen? ⟨w.heap.size + 1, i, none⟩ = false := fun i => World.frozen?_alloc_at _ _ _ _ (by rw [World.size_alloc])
  have ZF := Lib.hid zf
  have HB0 := Lib.hid hb0
  clear ha hb0 zf
  go_enter Tryd.func13, Tryd.ntmps13
  go_wp2
  generalize (w.alloc (.cells #[.int .i64 no, .int .i64 gsn, .slice a l.length c] 24)).alloc (.cells #[.bool false, .string ⟨#[]⟩] 29) = W2 at *
  go_loopw [10] (fun i wr => ∃ k : Nat, k ≤ l.length ∧ i = .int .i64 k ∧ Hid (clGet l key = clGet (l.drop k) key) ∧ Hid (Below W2.heap.size W2 wr)) (fun i _ => l.length - (intOf i).toNat)
  case atStart => exact ⟨0, Nat.zero_le _, rfl, rfl, Below.refl _ _⟩
  case round =>
    obtain ⟨k, hk, rfl, hg, hb⟩ := hrel
    rename World => wa
    have y0 := keep_cell hb.out z0.out
    have y1 := keep_cell hb.out z1.out
    have hlt2 := block_lt z0.out
    have yf : ∀ i, wa.frozen? ⟨w.heap.size + 1, i, none⟩ = false := fun i => (hb.out.frozen (p := ⟨w.heap.size + 1, i, none⟩) hlt2).trans (ZF.out i)
    have hbw := HB0.out.trans (hb.out.mono HB0.out.size)
    by_cases hlt : k < l.length
    · have hk0 : (0 : Int) ≤ (k : Int) := by omega
      have hk1 : (k : Int) < (l.length : Int) := by omega
      obtain ⟨b, off, rfl, c1, c2⟩ := (HA.out.below hb.out).at hlt
      have HD := Lib.hid (hg.out.trans (clGet_drop hlt))
      clear hg
      have hba : Below wa.heap.size wa (wa.alloc (.cells #[.string (l.getD k noCl).1, .string (l.getD k noCl).2] 44)) := (Below.refl _ _).alloc (Nat.le_refl _) _
      by_cases he : (l.getD k noCl).1 = key
      · have HR : Hid (clGet l key = (true, (l.getD k noCl).2)) := by rw [Hid, HD.out, if_pos he]
        rw [he] at c1 hba
        clear he HD
        generalize (l.getD k noCl).2 = s2 at *
        have x0 := Lib.hid (keep_cell hba y0)
        have x1 := Lib.hid (keep_cell hba y1)
        have xf := Lib.hid (fun i => (hba.frozen (p := ⟨w.heap.size + 1, i, none⟩) (show w.heap.size + 1 < wa.heap.size from block_lt y0)).trans (yf i))
        have hbx := Lib.hid (hbw.trans (hba.mono hbw.size))
        clear y0 y1 yf hbw hba
        go_wp2_with fail
        refine (KH.out _ _).mono ?_
        rintro e w5 ⟨rfl, hb5⟩
        have v0 := keep_cell hb5 x0.out
        have v1 := keep_cell hb5 x1.out
        have vf : ∀ i, w5.frozen? ⟨w.heap.size + 1, i, none⟩ = false := fun i => (hb5.frozen (p := ⟨w.heap.size + 1, i, none⟩) (show w.heap.size + 1 < _ from block_lt x0.out)).trans (xf.out i)
        have hb6 := hbx.out.trans (hb5.mono hbx.out.size)
        clear hb5 x0 x1 xf hbx c1 c2
        go_wp2
        obtain ⟨X, hX, r0, r1, hbX⟩ := set2 (v0 := .bool true) (v1 := .string s2) hb6 (Nat.le_succ _) v0 v1
        rw [← hX]
        refine bodyPost_ret (v := .agg #[.bool true, .string s2]) ?_ rfl ⟨by rw [HR.out], hbX⟩
        simp [results, Tryd.results13, go_sem, r0, r1]
      · have HR : Hid (clGet l key = clGet (l.drop (k + 1)) key) := by rw [Hid, HD.out, if_neg he]
        have f1 := ba_neL he
        have f2 := ba_neL' he
        have HB2 := Lib.hid (hb.out.trans (hba.mono hb.out.size))
        clear he HD y0 y1 yf hbw hba hb
        generalize (l.getD k noCl).1 = s1 at *
        generalize (l.getD k noCl).2 = s2 at *
        go_wp2
        go_roundw
        case rel => exact ⟨k + 1, by omega, by go_num, HR, HB2⟩
        case measure => simp [intOf]; omega
    · have hke : k = l.length := by omega
      have hk1 : (l.length : Int) ≤ (k : Int) := by omega
      have HR : Hid (clGet l key = (false, ⟨#[]⟩)) := by rw [Hid, hg.out, hke, List.drop_length]; rfl
      clear hg hke
      go_wp2
      obtain ⟨X, hX, r0, r1, hbX⟩ := set2 (v0 := .bool false) (v1 := .string ⟨#[]⟩) hbw (Nat.le_succ _) y0 y1
      rw [← hX]
      refine bodyPost_ret (v := .agg #[.bool false, .string ⟨#[]⟩]) ?_ rfl ⟨by rw [HR.out], hbX⟩
      simp [results, Tryd.results13, go_sem, r0, r1]
set_option maxHeartbeats 2000000 in
theorem refGet_any (no gsn : Int) (a : Option Addr) (l : List (ByteArray × ByteArray)) (c : Nat) (key : ByteArray) (w : World) (hn : l.length ≤ 1000000) (ha : ClsAt w a l) :
    Calls Tryd.prog 14 #[.agg #[.int .i64 no, .int .i64 gsn, .slice a l.length c], .string key] w fun e w' => e = .returned (.agg #[.bool (clGet l key).1, .string (clGet l key).2]) ∧ Below w.heap.size w w' := by
  have hb0 : Below w.heap.size w ((w.alloc (.cells #[.int .i64 no, .int .i64 gsn, .slice a l.length c] 24)).alloc (.cells #[.bool false, .string ⟨#[]⟩] 29)) := ((Below.refl _ _).alloc (Nat.le_refl _) _).alloc (by rw [World.size_alloc]; omega) _
  have HA := Lib.hid (ha.below hb0)
  have z0 := Lib.hid (new_cell (W := w.alloc (.cells #[.int .i64 no, .int .i64 gsn, .slice a l.length c] 24)) (cs := #[.bool false, .string ⟨#[]⟩]) (T := 29) (g := w.heap.size + 1) (i := 0) (v := .bool false) (by rw [World.size_alloc]) rfl)
  have z1 := Lib.hid (new_cell (W := w.alloc (.cells #[.int .i64 no, .int .i64 gsn, .slice a l.length c] 24)) (cs := #[.bool false, .string ⟨#[]⟩]) (T := 29) (g := w.heap.size + 1) (i := 1) (v := .string ⟨#[]⟩) (by rw [World.size_alloc]) rfl)
  have p2 := Lib.hid (keep_alloc (o := .cells #[.bool false, .string ⟨#[]⟩] 29) (new_cell (W := w) (cs := #[.int .i64 no, .int .i64 gsn, .slice a l.length c]) (T := 24) (g := w.heap.size) (i := 2) (v := .slice a l.length c) rfl rfl))
  have zf : ∀ i, ((w.alloc (.cells #[.int .i64 no, .int .i64 gsn, .slice a l.length c] 24)).alloc (.cells #[.bool false, .string ⟨#[]⟩] 29)).frozen? ⟨w.heap.size + 1, i, none⟩ = false := fun i => World.frozen?_alloc_at _ _ _ _ (by rw [World.size_alloc])
  have ZF := Lib.hid zf
  have HB0 := Lib.hid hb0
  clear ha hb0 zf
  go_enter Tryd.func14, Tryd.ntmps14
  go_wp2
  generalize (w.alloc (.cells #[.int .i64 no, .int .i64 gsn, .slice a l.length c] 24)).alloc (.cells #[.bool false, .string ⟨#[]⟩] 29) = W2 at *
  go_loopw [5] (fun i wr => ∃ k : Nat, k ≤ l.length ∧ i = .int .i64 k ∧ Hid (clGet l key = clGet (l.drop k) key) ∧ wr = W2) (fun i _ => l.length - (intOf i).toNat)
  case atStart => exact ⟨0, Nat.zero_le _, rfl, rfl, rfl⟩
  case round =>
    obtain ⟨k, hk, rfl, hg, hwx⟩ := hrel
    rename World => wa
    subst hwx
    have y0 := z0.out
    have y1 := z1.out
    have yf := ZF.out
    have y2 := p2.out
    have hbw := HB0.out
    by_cases hlt : k < l.length
    · have hk0 : (0 : Int) ≤ (k : Int) := by omega
      have hk1 : (k : Int) < (l.length : Int) := by omega
      obtain ⟨b, off, rfl, c1, c2⟩ := HA.out.at hlt
      have HD := Lib.hid (hg.out.trans (clGet_drop hlt))
      clear hg
      by_cases he : (l.getD k noCl).1 = key
      · have HR : Hid (clGet l key = (true, (l.getD k noCl).2)) := by rw [Hid, HD.out, if_pos he]
        rw [he] at c1
        clear he HD
        generalize (l.getD k noCl).2 = s2 at *
        go_wp2
        obtain ⟨X, hX, r0, r1, hbX⟩ := set2 (v0 := .bool true) (v1 := .string s2) hbw (Nat.le_succ _) y0 y1
        rw [← hX]
        refine bodyPost_ret (v := .agg #[.bool true, .string s2]) ?_ rfl ⟨by rw [HR.out], hbX⟩
        simp [results, Tryd.results14, go_sem, r0, r1]
      · have HR : Hid (clGet l key = clGet (l.drop (k + 1)) key) := by rw [Hid, HD.out, if_neg he]
        have f1 := ba_neL he
        have f2 := ba_neL' he
        clear he HD
        generalize (l.getD k noCl).1 = s1 at *
        generalize (l.getD k noCl).2 = s2 at *
        go_wp2
        go_roundw
        case rel => exact ⟨k + 1, by omega, by go_num, HR, trivial⟩
        case measure => simp [intOf]; omega
    · have hke : k = l.length := by omega
      have hk1 : (l.length : Int) ≤ (k : Int) := by omega
      have HR : Hid (clGet l key = (false, ⟨#[]⟩)) := by rw [Hid, hg.out, hke, List.drop_length]; rfl
      clear hg hke
      go_wp2
      obtain ⟨X, hX, r0, r1, hbX⟩ := set2 (v0 := .bool false) (v1 := .string ⟨#[]⟩) hbw (Nat.le_succ _) y0 y1
      rw [← hX]
      refine bodyPost_ret (v := .agg #[.bool false, .string ⟨#[]⟩]) ?_ rfl ⟨by rw [HR.out], hbX⟩
      simp [results, Tryd.results14, go_sem, r0, r1]
/-- Is there more than is asked of? -/
def clGreat (l : List (ByteArray × ByteArray)) : Bool := decide (20 < l.length) || l.any fun c => decide (100 < c.1.size) || decide (100 < c.2.size)
theorem clGreat_no {l : List (ByteArray × ByteArray)} (h : clGreat l = false) : l.length ≤ 20 ∧ ∀ c ∈ l, c.1.size ≤ 100 ∧ c.2.size ≤ 100 := by
  unfold clGreat at h
  rw [Bool.or_eq_false_iff] at h
  refine ⟨by have := h.1; simp at this; omega, fun x hx => ?_⟩
  have := List.any_eq_false.1 h.2 x hx
  simp at this; omega
theorem mem_cl {l : List (ByteArray × ByteArray)} {k : Nat} (hk : k < l.length) : l.getD k noCl ∈ l := by
  rw [List.getD_eq_getElem?_getD, List.getElem?_eq_getElem hk]; exact List.getElem_mem _
set_option maxHeartbeats 2000000 in
theorem great_any (no gsn : Int) (a : Option Addr) (l : List (ByteArray × ByteArray)) (c : Nat) (w : World) (hn : l.length ≤ maxLen) (ha : ClsAt w a l) :
    Calls Tryd.prog 7 #[.agg #[.int .i64 no, .int .i64 gsn, .slice a l.length c]] w fun e w' => e = .returned (.bool (clGreat l)) ∧ Below w.heap.size w w' := by
  have hb0 : Below w.heap.size w (w.alloc (.cells #[.int .i64 no, .int .i64 gsn, .slice a l.length c] 24)) := (Below.refl _ _).alloc (Nat.le_refl _) _
  have HG : Hid (clGreat l = (decide (20 < l.length) || l.any fun c => decide (100 < c.1.size) || decide (100 < c.2.size))) := rfl
  unfold maxLen at hn
  by_cases h20 : 20 < l.length
  · have HT : Hid (clGreat l = true) := by rw [Hid, HG.out, decide_eq_true h20]; rfl
    have h20 : (20 : Int) < (l.length : Int) := by omega
    clear HG ha
    go_enter Tryd.func7, Tryd.ntmps7
    go_wp2
    go_ret
    exact ⟨ret_bool HT.out.symm, hb0⟩
  · have HF : Hid (clGreat l = l.any fun c => decide (100 < c.1.size) || decide (100 < c.2.size)) := by rw [Hid, HG.out, decide_eq_false h20]; rfl
    have h20' : (l.length : Int) ≤ 20 := by omega
    have HA := Lib.hid (ha.below hb0)
    have p2 := new_cell (W := w) (cs := #[.int .i64 no, .int .i64 gsn, .slice a l.length c]) (T := 24) (g := w.heap.size) (i := 2) (v := .slice a l.length c) rfl rfl
    clear ha HG
    go_enter Tryd.func7, Tryd.ntmps7
    go_wp2
    generalize w.alloc (.cells #[.int .i64 no, .int .i64 gsn, .slice a l.length c] 24) = W2 at *
    go_loopw [3] (fun i wr => ∃ k : Nat, k ≤ l.length ∧ i = .int .i64 k ∧ Hid (∀ m, m < k → (l.getD m noCl).1.size ≤ 100 ∧ (l.getD m noCl).2.size ≤ 100) ∧ wr = W2) (fun i _ => l.length - (intOf i).toNat)
    case atStart => exact ⟨0, Nat.zero_le _, rfl, fun m hm => by omega, rfl⟩
    case round =>
      obtain ⟨k, hk, rfl, hso, hwx⟩ := hrel
      rename World => wa
      subst hwx
      by_cases hlt : k < l.length
      · have hk0 : (0 : Int) ≤ (k : Int) := by omega
        have hk1 : (k : Int) < (l.length : Int) := by omega
        obtain ⟨b, off, rfl, c1, c2⟩ := HA.out.at hlt
        have HY : Hid ((l.getD k noCl).1.size ≤ 100 → (l.getD k noCl).2.size ≤ 100 → ∀ m, m < k + 1 → (l.getD m noCl).1.size ≤ 100 ∧ (l.getD m noCl).2.size ≤ 100) := fun h1 h2 m hm => by
          rcases Nat.lt_or_ge m k with h' | h'
          · exact hso.out m h'
          · have : m = k := by omega
            rw [this]; exact ⟨h1, h2⟩
        have HN : Hid (100 < (l.getD k noCl).1.size ∨ 100 < (l.getD k noCl).2.size → clGreat l = true) := fun h => by
          rw [HF.out, List.any_eq_true]
          refine ⟨_, mem_cl hlt, ?_⟩
          rcases h with h | h
          · show (decide (100 < (l.getD k noCl).1.size) || _) = true
            rw [decide_eq_true h]; rfl
          · show (_ || decide (100 < (l.getD k noCl).2.size)) = true
            rw [decide_eq_true h, Bool.or_true]
        clear hso
        generalize (l.getD k noCl).1 = s1 at *
        generalize (l.getD k noCl).2 = s2 at *
        by_cases g1 : 100 < s1.size
        · have HT := Lib.hid (HN.out (.inl g1))
          have g1 : (100 : Int) < (s1.size : Int) := by omega
          clear HN HY
          go_wp2
          go_ret
          exact ⟨ret_bool HT.out.symm, hb0⟩
        · have g1' : (s1.size : Int) ≤ 100 := by omega
          by_cases g2 : 100 < s2.size
          · have HT := Lib.hid (HN.out (.inr g2))
            have g2 : (100 : Int) < (s2.size : Int) := by omega
            clear HN HY
            go_wp2
            go_ret
            exact ⟨ret_bool HT.out.symm, hb0⟩
          · have g2' : (s2.size : Int) ≤ 100 := by omega
            have HS := Lib.hid (HY.out (by omega) (by omega))
            clear HN HY
            go_wp2
            go_roundw
            case rel => exact ⟨k + 1, by omega, by go_num, HS, trivial⟩
            case measure => simp [intOf]; omega
      · have hk1 : (l.length : Int) ≤ (k : Int) := by omega
        have HT : Hid (clGreat l = false) := by
          rw [Hid, HF.out, List.any_eq_false]
          intro x hx
          obtain ⟨m, hm, rfl⟩ := List.getElem_of_mem hx
          have := hso.out m (by omega)
          rw [List.getD_eq_getElem?_getD, List.getElem?_eq_getElem hm] at this
          simp only [Option.getD_some] at this
          simp; omega
        go_wp2
        go_ret
        exact ⟨ret_bool HT.out.symm, hb0⟩
end
end Go.Proofs.YtgkpbchpjgkblaaDoor
