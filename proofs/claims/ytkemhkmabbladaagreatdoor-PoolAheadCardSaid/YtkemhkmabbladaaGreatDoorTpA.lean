/-
  WHAT IS NEEDED OF THE DEVICE'S TEXTS, AS FAR AS THIS SEAT HAS ITS FUNCTIONS (put together by wip/only-there.py).
-/
import Derived.Test.YtkemhkmabbladaaGreatDoorPgRec
import Derived.BigQuiet
import Derived.Deep.QuietTactic
namespace Go.Proofs.YtkemhkmabbladaaGreatDoor
open Go.RowKit
def noCl : ByteArray × ByteArray := (ByteArray.empty, ByteArray.empty)
/-- A slice of cells that reads as these. -/
def ClsAt (W : World) (a : Option Addr) (l : List (ByteArray × ByteArray)) : Prop :=
  l = [] ∨ ∃ b off, a = some ⟨b, off, none⟩ ∧ ∀ i, i < l.length → W.cell? ⟨b, off + i * 2, none⟩ = some (.string (l.getD i noCl).1) ∧ W.cell? ⟨b, off + i * 2 + 1, none⟩ = some (.string (l.getD i noCl).2)
theorem ClsAt.below {w w' : World} {a : Option Addr} {l : List (ByteArray × ByteArray)} (h : ClsAt w a l) (hb : Below w.heap.size w w') : ClsAt w' a l := by
  rcases h with h | ⟨b, off, e, h⟩
  · exact .inl h
  · exact .inr ⟨b, off, e, fun i hi => ⟨keep_cell hb (h i hi).1, keep_cell hb (h i hi).2⟩⟩
theorem ClsAt.at {w : World} {a : Option Addr} {l : List (ByteArray × ByteArray)} (h : ClsAt w a l) {k : Nat} (hk : k < l.length) :
    ∃ b off, a = some ⟨b, off, none⟩ ∧ w.cell? ⟨b, off + k * 2, none⟩ = some (.string (l.getD k noCl).1) ∧ w.cell? ⟨b, off + k * 2 + 1, none⟩ = some (.string (l.getD k noCl).2) := by
  rcases h with h | ⟨b, off, e, h⟩
  · subst h; simp at hk
  · exact ⟨b, off, e, h k hk⟩
theorem below_drewN {w W : World} {B : Nat} (h : Below B w W) (n : Nat) : Below B w (W.drewN n) := ⟨h.os, h.tape, h.output, h.size, h.block⟩
theorem ret_bool {a b : Bool} (h : a = b) : Ending.returned (.bool a) = .returned (.bool b) := by rw [h]
theorem ba_beqL (a b : ByteArray) : (a.toList == b.toList) = decide (a = b) := by
  rw [Bool.eq_iff_iff, beq_iff_eq, decide_eq_true_iff, ByteArray.toList_eq, ByteArray.toList_eq]
  constructor
  · intro h
    cases a with | mk a => cases b with | mk b =>
    have : a = b := Array.toList_inj.1 h
    rw [this]
  · intro h; rw [h]
theorem ba_neL {a b : ByteArray} (h : a ≠ b) : (a.toList == b.toList) = false := by rw [ba_beqL]; exact decide_eq_false h
theorem ba_neL' {a b : ByteArray} (h : a ≠ b) : ¬ a.toList = b.toList := by
  have := ba_neL h
  rwa [beq_eq_false_iff_ne] at this
theorem has_any (s : ByteArray) (w : World) : Calls Tryz.prog 76 #[.string s] w fun e w' => e = .returned (.agg #[.bool true, .string s]) ∧ Below w.heap.size w w' := by
  go_enter Tryz.func76, Tryz.ntmps76
  go_wp2
  exact bodyPost_ret (v := .agg #[.bool true, .string s]) (by simp [results, Tryz.results76, go_sem]) rfl ⟨rfl, (Below.refl _ _).alloc (Nat.le_refl _) _⟩
/-- Two lists differ at a place. -/
theorem ne_at {l r : List (ByteArray × ByteArray)} {k : Nat} (h : (l.getD k noCl).1 ≠ (r.getD k noCl).1 ∨ (l.getD k noCl).2 ≠ (r.getD k noCl).2) : l ≠ r := by
  intro e; subst e; rcases h with h | h <;> exact h rfl
theorem eq_all {l r : List (ByteArray × ByteArray)} (hl : l.length = r.length) (h : ∀ m, m < l.length → l.getD m noCl = r.getD m noCl) : l = r := by
  apply List.ext_getElem hl
  intro i h1 h2
  have := h i h1
  simp only [List.getD_eq_getElem?_getD, List.getElem?_eq_getElem h1, List.getElem?_eq_getElem h2, Option.getD_some] at this
  exact this
/-- A page by value. -/
def pgV (no gsn : Int) (a : Option Addr) (n cap : Nat) : Value := .agg #[.int .i64 no, .int .i64 gsn, .slice a n cap]
def pgSame (n1 g1 : Int) (l : List (ByteArray × ByteArray)) (n2 g2 : Int) (r : List (ByteArray × ByteArray)) : Bool := decide (n1 = n2) && decide (g1 = g2) && decide (l = r)
theorem hp_new {W : World} {o : Obj} {n : Nat} (h : n = W.heap.size) : (W.alloc o).heap[n]? = some o := by
  subst h
  show (W.heap.push o)[W.heap.size]? = _
  rw [Array.getElem?_push, if_pos rfl]
theorem new_cell {W : World} {cs : Array Value} {T : TypeId} {g i : Nat} {v : Value} (hg : g = W.heap.size) (hv : cs[i]? = some v) : (W.alloc (.cells cs T)).cell? ⟨g, i, none⟩ = some v := by
  subst hg
  rw [cell_of_row _ W.heap.size i cs T (0, 0) (hp_new rfl)]; exact hv
theorem keep_alloc {W : World} {o : Obj} {p : Addr} {v : Value} (hc : W.cell? p = some v) : (W.alloc o).cell? p = some v :=
  (World.cell?_of_block (by
    have hlt := block_lt hc
    show (W.heap.push o)[p.block]? = W.heap[p.block]?
    rw [Array.getElem?_push, if_neg (by omega)])).trans hc
theorem set2 {W w : World} {R B : Nat} {u0 u1 v0 v1 : Value} (hb : Below B w W) (hB : B ≤ R) (c0 : W.cell? ⟨R, 0, none⟩ = some u0) (c1 : W.cell? ⟨R, 1, none⟩ = some u1) :
    ∃ X, X = (W.setCell ⟨R, 0, none⟩ v0).setCell ⟨R, 1, none⟩ v1 ∧ X.cell? ⟨R, 0, none⟩ = some v0 ∧ X.cell? ⟨R, 1, none⟩ = some v1 ∧ Below B w X := by
  have hne : (⟨R, 1, none⟩ : Addr) ≠ ⟨R, 0, none⟩ := fun e => by injection e with _ e; cases e
  have d1 : (W.setCell ⟨R, 0, none⟩ v0).cell? ⟨R, 1, none⟩ = some u1 := by rw [World.cell?_setCell_other _ _ _ _ (fun e => hne e.symm)]; exact c1
  refine ⟨_, rfl, ?_, World.cell?_setCell_same _ _ _ d1, (hb.setCell hB _).setCell hB _⟩
  rw [World.cell?_setCell_other _ _ _ _ hne]
  exact World.cell?_setCell_same _ _ _ c0
/-- The value of the first cell of a key. -/
def clGet : List (ByteArray × ByteArray) → ByteArray → Bool × ByteArray
  | [], _ => (false, ⟨#[]⟩)
  | c :: l, k => if c.1 = k then (true, c.2) else clGet l k
theorem clGet_drop {l : List (ByteArray × ByteArray)} {key : ByteArray} {k : Nat} (hk : k < l.length) : clGet (l.drop k) key = if (l.getD k noCl).1 = key then (true, (l.getD k noCl).2) else clGet (l.drop (k + 1)) key := by
  rw [List.drop_eq_getElem_cons hk, clGet, List.getD_eq_getElem?_getD, List.getElem?_eq_getElem hk]; rfl
section
set_option maxHeartbeats 2000000 in
theorem refGet_any (no gsn : Int) (a : Option Addr) (l : List (ByteArray × ByteArray)) (c : Nat) (key : ByteArray) (w : World) (hn : l.length ≤ 1000000) (ha : ClsAt w a l) :
    Calls Tryz.prog 56 #[.agg #[.int .i64 no, .int .i64 gsn, .slice a l.length c], .string key] w fun e w' => e = .returned (.agg #[.bool (clGet l key).1, .string (clGet l key).2]) ∧ Below w.heap.size w w' := by
  have hb0 : Below w.heap.size w ((w.alloc (.cells #[.int .i64 no, .int .i64 gsn, .slice a l.length c] 36)).alloc (.cells #[.bool false, .string ⟨#[]⟩] 40)) := ((Below.refl _ _).alloc (Nat.le_refl _) _).alloc (by rw [World.size_alloc]; omega) _
  have HA := Lib.hid (ha.below hb0)
  have z0 := Lib.hid (new_cell (W := w.alloc (.cells #[.int .i64 no, .int .i64 gsn, .slice a l.length c] 36)) (cs := #[.bool false, .string ⟨#[]⟩]) (T := 40) (g := w.heap.size + 1) (i := 0) (v := .bool false) (by rw [World.size_alloc]) rfl)
  have z1 := Lib.hid (new_cell (W := w.alloc (.cells #[.int .i64 no, .int .i64 gsn, .slice a l.length c] 36)) (cs := #[.bool false, .string ⟨#[]⟩]) (T := 40) (g := w.heap.size + 1) (i := 1) (v := .string ⟨#[]⟩) (by rw [World.size_alloc]) rfl)
  have p2 := Lib.hid (keep_alloc (o := .cells #[.bool false, .string ⟨#[]⟩] 40) (new_cell (W := w) (cs := #[.int .i64 no, .int .i64 gsn, .slice a l.length c]) (T := 36) (g := w.heap.size) (i := 2) (v := .slice a l.length c) rfl rfl))
  have zf : ∀ i, ((w.alloc (.cells #[.int .i64 no, .int .i64 gsn, .slice a l.length c] 36)).alloc (.cells #[.bool false, .string ⟨#[]⟩] 40)).frozen? ⟨w.heap.size + 1, i, none⟩ = false := fun i => World.frozen?_alloc_at _ _ _ _ (by rw [World.size_alloc])
  have ZF := Lib.hid zf
  have HB0 := Lib.hid hb0
  clear ha hb0 zf
  go_enter Tryz.func56, Tryz.ntmps56
  go_wp2
  generalize (w.alloc (.cells #[.int .i64 no, .int .i64 gsn, .slice a l.length c] 36)).alloc (.cells #[.bool false, .string ⟨#[]⟩] 40) = W2 at *
  go_loopw [5] (fun i wr => ∃ k : Nat, k ≤ l.length ∧ i = .int .i64 k ∧ Hid (clGet l key = clGet (l.drop k) key) ∧ wr = W2) (fun i _ => l.length - (intOf i).toNat)
  case atStart => exact ⟨0, Nat.zero_le _, rfl, rfl, rfl⟩
  case round =>
    obtain ⟨k, hk, rfl, hg, hwx⟩ := hrel
    rename World => wa
    subst hwx
    have y0 := z0.out
    have y1 := z1.out
    have yf := ZF.out
    have y2 := p2.out
    have hbw := HB0.out
    by_cases hlt : k < l.length
    · have hk0 : (0 : Int) ≤ (k : Int) := by omega
      have hk1 : (k : Int) < (l.length : Int) := by omega
      obtain ⟨b, off, rfl, c1, c2⟩ := HA.out.at hlt
      have HD := Lib.hid (hg.out.trans (clGet_drop hlt))
      clear hg
      by_cases he : (l.getD k noCl).1 = key
      · have HR : Hid (clGet l key = (true, (l.getD k noCl).2)) := by rw [Hid, HD.out, if_pos he]
        rw [he] at c1
        clear he HD
        generalize (l.getD k noCl).2 = s2 at *
        go_wp2
        obtain ⟨X, hX, r0, r1, hbX⟩ := set2 (v0 := .bool true) (v1 := .string s2) hbw (Nat.le_succ _) y0 y1
        rw [← hX]
        refine bodyPost_ret (v := .agg #[.bool true, .string s2]) ?_ rfl ⟨by rw [HR.out], hbX⟩
        simp [results, Tryz.results56, go_sem, r0, r1]
      · have HR : Hid (clGet l key = clGet (l.drop (k + 1)) key) := by rw [Hid, HD.out, if_neg he]
        have f1 := ba_neL he
        have f2 := ba_neL' he
        clear he HD
        generalize (l.getD k noCl).1 = s1 at *
        generalize (l.getD k noCl).2 = s2 at *
        go_wp2
        go_roundw
        case rel => exact ⟨k + 1, by omega, by go_num, HR, trivial⟩
        case measure => simp [intOf]; omega
    · have hke : k = l.length := by omega
      have hk1 : (l.length : Int) ≤ (k : Int) := by omega
      have HR : Hid (clGet l key = (false, ⟨#[]⟩)) := by rw [Hid, hg.out, hke, List.drop_length]; rfl
      clear hg hke
      go_wp2
      obtain ⟨X, hX, r0, r1, hbX⟩ := set2 (v0 := .bool false) (v1 := .string ⟨#[]⟩) hbw (Nat.le_succ _) y0 y1
      rw [← hX]
      refine bodyPost_ret (v := .agg #[.bool false, .string ⟨#[]⟩]) ?_ rfl ⟨by rw [HR.out], hbX⟩
      simp [results, Tryz.results56, go_sem, r0, r1]
/-- Is there more than is asked of? -/
def clGreat (l : List (ByteArray × ByteArray)) : Bool := decide (20 < l.length) || l.any fun c => decide (100 < c.1.size) || decide (100 < c.2.size)
theorem clGreat_no {l : List (ByteArray × ByteArray)} (h : clGreat l = false) : l.length ≤ 20 ∧ ∀ c ∈ l, c.1.size ≤ 100 ∧ c.2.size ≤ 100 := by
  unfold clGreat at h
  rw [Bool.or_eq_false_iff] at h
  refine ⟨by have := h.1; simp at this; omega, fun x hx => ?_⟩
  have := List.any_eq_false.1 h.2 x hx
  simp at this; omega
theorem mem_cl {l : List (ByteArray × ByteArray)} {k : Nat} (hk : k < l.length) : l.getD k noCl ∈ l := by
  rw [List.getD_eq_getElem?_getD, List.getElem?_eq_getElem hk]; exact List.getElem_mem _
set_option maxHeartbeats 2000000 in
theorem great_any (no gsn : Int) (a : Option Addr) (l : List (ByteArray × ByteArray)) (c : Nat) (w : World) (hn : l.length ≤ maxLen) (ha : ClsAt w a l) :
    Calls Tryz.prog 17 #[.agg #[.int .i64 no, .int .i64 gsn, .slice a l.length c]] w fun e w' => e = .returned (.bool (clGreat l)) ∧ Below w.heap.size w w' := by
  have hb0 : Below w.heap.size w (w.alloc (.cells #[.int .i64 no, .int .i64 gsn, .slice a l.length c] 36)) := (Below.refl _ _).alloc (Nat.le_refl _) _
  have HG : Hid (clGreat l = (decide (20 < l.length) || l.any fun c => decide (100 < c.1.size) || decide (100 < c.2.size))) := rfl
  unfold maxLen at hn
  by_cases h20 : 20 < l.length
  · have HT : Hid (clGreat l = true) := by rw [Hid, HG.out, decide_eq_true h20]; rfl
    have h20 : (20 : Int) < (l.length : Int) := by omega
    clear HG ha
    go_enter Tryz.func17, Tryz.ntmps17
    go_wp2
    go_ret
    exact ⟨ret_bool HT.out.symm, hb0⟩
  · have HF : Hid (clGreat l = l.any fun c => decide (100 < c.1.size) || decide (100 < c.2.size)) := by rw [Hid, HG.out, decide_eq_false h20]; rfl
    have h20' : (l.length : Int) ≤ 20 := by omega
    have HA := Lib.hid (ha.below hb0)
    have p2 := new_cell (W := w) (cs := #[.int .i64 no, .int .i64 gsn, .slice a l.length c]) (T := 36) (g := w.heap.size) (i := 2) (v := .slice a l.length c) rfl rfl
    clear ha HG
    go_enter Tryz.func17, Tryz.ntmps17
    go_wp2
    generalize w.alloc (.cells #[.int .i64 no, .int .i64 gsn, .slice a l.length c] 36) = W2 at *
    go_loopw [3] (fun i wr => ∃ k : Nat, k ≤ l.length ∧ i = .int .i64 k ∧ Hid (∀ m, m < k → (l.getD m noCl).1.size ≤ 100 ∧ (l.getD m noCl).2.size ≤ 100) ∧ wr = W2) (fun i _ => l.length - (intOf i).toNat)
    case atStart => exact ⟨0, Nat.zero_le _, rfl, fun m hm => by omega, rfl⟩
    case round =>
      obtain ⟨k, hk, rfl, hso, hwx⟩ := hrel
      rename World => wa
      subst hwx
      by_cases hlt : k < l.length
      · have hk0 : (0 : Int) ≤ (k : Int) := by omega
        have hk1 : (k : Int) < (l.length : Int) := by omega
        obtain ⟨b, off, rfl, c1, c2⟩ := HA.out.at hlt
        have HY : Hid ((l.getD k noCl).1.size ≤ 100 → (l.getD k noCl).2.size ≤ 100 → ∀ m, m < k + 1 → (l.getD m noCl).1.size ≤ 100 ∧ (l.getD m noCl).2.size ≤ 100) := fun h1 h2 m hm => by
          rcases Nat.lt_or_ge m k with h' | h'
          · exact hso.out m h'
          · have : m = k := by omega
            rw [this]; exact ⟨h1, h2⟩
        have HN : Hid (100 < (l.getD k noCl).1.size ∨ 100 < (l.getD k noCl).2.size → clGreat l = true) := fun h => by
          rw [HF.out, List.any_eq_true]
          refine ⟨_, mem_cl hlt, ?_⟩
          rcases h with h | h
          · show (decide (100 < (l.getD k noCl).1.size) || _) = true
            rw [decide_eq_true h]; rfl
          · show (_ || decide (100 < (l.getD k noCl).2.size)) = true
            rw [decide_eq_true h, Bool.or_true]
        clear hso
        generalize (l.getD k noCl).1 = s1 at *
        generalize (l.getD k noCl).2 = s2 at *
        by_cases g1 : 100 < s1.size
        · have HT := Lib.hid (HN.out (.inl g1))
          have g1 : (100 : Int) < (s1.size : Int) := by omega
          clear HN HY
          go_wp2
          go_ret
          exact ⟨ret_bool HT.out.symm, hb0⟩
        · have g1' : (s1.size : Int) ≤ 100 := by omega
          by_cases g2 : 100 < s2.size
          · have HT := Lib.hid (HN.out (.inr g2))
            have g2 : (100 : Int) < (s2.size : Int) := by omega
            clear HN HY
            go_wp2
            go_ret
            exact ⟨ret_bool HT.out.symm, hb0⟩
          · have g2' : (s2.size : Int) ≤ 100 := by omega
            have HS := Lib.hid (HY.out (by omega) (by omega))
            clear HN HY
            go_wp2
            go_roundw
            case rel => exact ⟨k + 1, by omega, by go_num, HS, trivial⟩
            case measure => simp [intOf]; omega
      · have hk1 : (l.length : Int) ≤ (k : Int) := by omega
        have HT : Hid (clGreat l = false) := by
          rw [Hid, HF.out, List.any_eq_false]
          intro x hx
          obtain ⟨m, hm, rfl⟩ := List.getElem_of_mem hx
          have := hso.out m (by omega)
          rw [List.getD_eq_getElem?_getD, List.getElem?_eq_getElem hm] at this
          simp only [Option.getD_some] at this
          simp; omega
        go_wp2
        go_ret
        exact ⟨ret_bool HT.out.symm, hb0⟩
end
end Go.Proofs.YtkemhkmabbladaaGreatDoor
