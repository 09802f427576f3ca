/-
  WHAT IS NEEDED OF THE DEVICE'S TEXTS, AS FAR AS THIS SEAT HAS ITS FUNCTIONS (put together by wip/only-there.py).
-/
import Derived.Test.YtpkbopeddhgnlaaGreatDoorPlChangeA
import Derived.Test.YtpkbopeddhgnlaaGreatDoorTpRef
import Derived.Test.YtpkbopeddhgnlaaGreatDoorTpTakeP
import Derived.Deep.RegionLaw
import Derived.StillTailTactics
import Derived.Deep.RegionHeld3
import Derived.Laws.OwnMore
import Derived.Maps.AppendAt
import Derived.OwnWalk
namespace Go.Proofs.YtpkbopeddhgnlaaGreatDoor
open Go.RowKit
theorem cmp_lt : ∀ a b : List UInt8, decide (Lib.compareBytes a b < 0) = Op.bytesLess a b
  | [], [] => rfl
  | [], _ :: _ => rfl
  | _ :: _, [] => rfl
  | x :: a, y :: b => by
    have ih := cmp_lt a b
    show decide ((if x < y then (-1 : Int) else if y < x then 1 else Lib.compareBytes a b) < 0) = (decide (x < y) || (x == y && Op.bytesLess a b))
    by_cases h1 : x < y
    · rw [if_pos h1, decide_eq_true h1]; rfl
    · rw [if_neg h1, decide_eq_false h1, Bool.false_or]
      by_cases h2 : y < x
      · rw [if_pos h2]
        have : (x == y) = false := by
          rw [beq_eq_false_iff_ne]; intro e; subst e; exact h1 h2
        rw [this]; rfl
      · rw [if_neg h2]
        have : x = y := by
          rw [UInt8.lt_iff_toNat_lt] at h1 h2
          exact UInt8.toNat_inj.1 (by omega)
        subst this
        rw [beq_self_eq_true, Bool.true_and]; exact ih
theorem cmp_eq : ∀ a b : List UInt8, (Lib.compareBytes a b == 0) = decide (a = b)
  | [], [] => rfl
  | [], _ :: _ => rfl
  | _ :: _, [] => rfl
  | x :: a, y :: b => by
    have ih := cmp_eq a b
    show ((if x < y then (-1 : Int) else if y < x then 1 else Lib.compareBytes a b) == 0) = decide (x :: a = y :: b)
    by_cases h1 : x < y
    · rw [if_pos h1]
      have : ¬ x :: a = y :: b := fun e => by
        injection e with e _; subst e; exact UInt8.lt_irrefl _ h1
      rw [decide_eq_false this]; rfl
    · rw [if_neg h1]
      by_cases h2 : y < x
      · rw [if_pos h2]
        have : ¬ x :: a = y :: b := fun e => by
          injection e with e _; subst e; exact UInt8.lt_irrefl _ h2
        rw [decide_eq_false this]; rfl
      · rw [if_neg h2]
        have hxy : x = y := by
          rw [UInt8.lt_iff_toNat_lt] at h1 h2
          exact UInt8.toNat_inj.1 (by omega)
        subst hxy
        rw [ih]
        by_cases e : a = b
        · subst e; simp
        · rw [decide_eq_false e, decide_eq_false (fun x => e (by injection x))]
def cmpB (a b : ByteArray) : Int := Lib.compareBytes a.data.toList b.data.toList
theorem cmpB_lt (a b : ByteArray) : decide (cmpB a b < 0) = upC a b := by
  unfold cmpB upC
  rw [cmp_lt, ByteArray.toList_eq, ByteArray.toList_eq]
theorem cmpB_eq (a b : ByteArray) : (cmpB a b == 0) = decide (a = b) := by
  unfold cmpB
  rw [cmp_eq, ← ba_beqL, Bool.eq_iff_iff, decide_eq_true_iff, beq_iff_eq, ByteArray.toList_eq, ByteArray.toList_eq]
/-- Where a key stands, or would stand. -/
structure PosOf (l : List (ByteArray × ByteArray)) (key : ByteArray) (n : Nat) : Prop where
  le : n ≤ l.length
  lo : ∀ m, m < n → upC (l.getD m noCl).1 key = true
  hi : ∀ m, n ≤ m → m < l.length → upC (l.getD m noCl).1 key = false
def foundB (l : List (ByteArray × ByteArray)) (key : ByteArray) (n : Nat) : Bool := decide (n < l.length) && decide ((l.getD n noCl).1 = key)
def FindPost (l : List (ByteArray × ByteArray)) (key : ByteArray) (w : World) (e : Ending) (w' : World) : Prop :=
  ∃ n, PosOf l key n ∧ e = .returned (.tuple #[.int .i64 (n : Int), .bool (foundB l key n)]) ∧ Below w.heap.size w w'
/-- The keys rise. -/
def RiseL (l : List (ByteArray × ByteArray)) : Prop := ∀ i j, i < j → j < l.length → upC (l.getD i noCl).1 (l.getD j noCl).1 = true
theorem less_trans : ∀ a b c : List UInt8, Op.bytesLess a b = true → Op.bytesLess b c = true → Op.bytesLess a c = true
  | [], b, [], _, h => by cases b <;> cases h
  | [], _, _ :: _, _, _ => rfl
  | _ :: _, [], _, h, _ => by cases h
  | _ :: _, _ :: _, [], _, h => by cases h
  | x :: a, y :: b, z :: c, h1, h2 => by
    have k1 : (decide (x < y) || (x == y && Op.bytesLess a b)) = true := h1
    have k2 : (decide (y < z) || (y == z && Op.bytesLess b c)) = true := h2
    clear h1 h2
    show (decide (x < z) || (x == z && Op.bytesLess a c)) = true
    rw [Bool.or_eq_true, Bool.and_eq_true, decide_eq_true_iff, beq_iff_eq] at k1 k2 ⊢
    rcases k1 with k1 | ⟨e1, k1⟩
    · rcases k2 with k2 | ⟨e2, k2⟩
      · exact .inl (UInt8.lt_trans k1 k2)
      · exact .inl (by rw [← e2]; exact k1)
    · rcases k2 with k2 | ⟨e2, k2⟩
      · exact .inl (by rw [e1]; exact k2)
      · exact .inr ⟨e1.trans e2, less_trans a b c k1 k2⟩
theorem upC_trans {a b c : ByteArray} (h1 : upC a b = true) (h2 : upC b c = true) : upC a c = true := less_trans _ _ _ h1 h2
theorem upC_tri (a b : ByteArray) : (upC a b || a.toList == b.toList) = !upC b a := less_tri _ _
theorem upC_irrefl (a : ByteArray) : upC a a = false := by
  have := upC_tri a a
  rw [beq_self_eq_true, Bool.or_true] at this
  cases h : upC a a
  · rfl
  · rw [h] at this; cases this
section
end
theorem rise_of {l : List (ByteArray × ByteArray)} (h : cellsB l = true) : RiseL l := by
  have h1 : ∀ k, k < l.length → cellB l k = true := fun k hk => by
    unfold cellsB at h
    rw [List.all_eq_true] at h
    exact h k (List.mem_range.2 hk)
  have h2 : ∀ k, k + 1 < l.length → upC (l.getD k noCl).1 (l.getD (k + 1) noCl).1 = true := fun k hk => by
    have := h1 (k + 1) hk
    unfold cellB at this
    rw [Bool.and_eq_true, Bool.or_eq_true, decide_eq_true_iff] at this
    rcases this.2 with h | h
    · omega
    · exact h
  intro i j hij hj
  induction j with
  | zero => omega
  | succ j ih =>
    by_cases e : i = j
    · subst e; exact h2 i hj
    · exact upC_trans (ih (by omega) (by omega)) (h2 j hj)
theorem cls_take {W : World} {a : Option Addr} {l : List (ByteArray × ByteArray)} (h : ClsAt W a l) (n : Nat) : ClsAt W a (l.take n) := by
  rcases h with rfl | ⟨b, off, e, h⟩
  · exact .inl (by simp)
  · refine .inr ⟨b, off, e, fun i hi => ?_⟩
    rw [List.length_take] at hi
    have hg : (l.take n).getD i noCl = l.getD i noCl := by
      simp only [List.getD_eq_getElem?_getD, List.getElem?_take]
      rw [if_pos (by omega)]
    rw [hg]
    exact h i (by omega)
/-- p.Cells[:n]: what it is, in any world. -/
theorem slice_to (a : Option Addr) (l : List (ByteArray × ByteArray)) (c n : Nat) (hlc : l.length ≤ c) (hn : n ≤ l.length) (hz : a = none → c = 0) :
    ∃ a1, (∀ W, (Instr.slice 24 (.slice a l.length c) none (some (.int .i64 (n : Int))) none).run Tryz.prog W = .ok (.slice a1 n c) W) ∧ (∀ W, ClsAt W a l → ClsAt W a1 (l.take n)) ∧ (a1 = none → c = 0) := by
  have e : Tryz.prog.elem 24 = 39 := by kernel_rfl
  have hr : ∀ W, (Instr.slice 24 (.slice a l.length c) none (some (.int .i64 (n : Int))) none).run Tryz.prog W = .ok (sliced a 0 n c 2) W := fun W => by
    rw [run_slice_h (P := Tryz.prog) (w := W) 24 a l.length c (by rw [e]; exact Tryz.underlying24) .i64 (n : Int) (by omega) (by omega), e, Tryz.sizeOf39, Int.toNat_natCast]; rfl
  cases a with
  | none =>
    refine ⟨none, fun W => ?_, fun W h => cls_take h n, hz⟩
    rw [hr W]
    unfold sliced
    simp
  | some ad =>
    refine ⟨some ad, fun W => ?_, fun W h => cls_take h n, fun e => by cases e⟩
    rw [hr W]
    unfold sliced
    have e0 : ad.add (0 * 2) = ad := by unfold Addr.add; split <;> simp_all
    simp [e0]
theorem cls_drop {W : World} {bb off : Nat} {l : List (ByteArray × ByteArray)} (h : ClsAt W (some ⟨bb, off, none⟩) l) (b : Nat) : ClsAt W (some ⟨bb, off + b * 2, none⟩) (l.drop b) := by
  rcases h with rfl | ⟨b', off', e, h⟩
  · exact .inl (by simp)
  · injection e with e
    injection e with e1 e2 _
    subst e1 e2
    refine .inr ⟨bb, off + b * 2, rfl, fun i hi => ?_⟩
    rw [List.length_drop] at hi
    have hg : (l.drop b).getD i noCl = l.getD (b + i) noCl := by
      simp only [List.getD_eq_getElem?_getD, List.getElem?_drop]
    obtain ⟨k1, k2⟩ := h (b + i) (by omega)
    rw [hg]
    have e : off + b * 2 + i * 2 = off + (b + i) * 2 := by omega
    rw [e]
    exact ⟨k1, k2⟩
/-- p.Cells[b:]. -/
theorem slice_from (a : Option Addr) (l : List (ByteArray × ByteArray)) (c b : Nat) (hlc : l.length ≤ c) (hb : b ≤ l.length) (hz : a = none → c = 0) :
    ∃ a1 c1, (∀ W, (Instr.slice 24 (.slice a l.length c) (some (.int .i64 (b : Int))) none none).run Tryz.prog W = .ok (.slice a1 (l.drop b).length c1) W) ∧ (∀ W, ClsAt W a l → ClsAt W a1 (l.drop b)) ∧ (a1 = none → c1 = 0) := by
  have e : Tryz.prog.elem 24 = 39 := by kernel_rfl
  have hr : ∀ W, (Instr.slice 24 (.slice a l.length c) (some (.int .i64 (b : Int))) none none).run Tryz.prog W = .ok (sliced a b l.length c 2) W := fun W => by
    rw [run_slice_l (P := Tryz.prog) (w := W) 24 a l.length c (by rw [e]; exact Tryz.underlying24) .i64 (b : Int) (by omega) (by omega), e, Tryz.sizeOf39, Int.toNat_natCast]; rfl
  rw [List.length_drop]
  by_cases hcb : c = b
  · have hd : l.drop b = [] := List.drop_eq_nil_of_le (by omega)
    refine ⟨a, c - b, fun W => ?_, fun W _ => by rw [hd]; exact .inl rfl, fun h => by rw [hz h]; simp⟩
    rw [hr W]
    unfold sliced
    cases a <;> simp [hcb]
  · cases a with
    | none => have := hz rfl; omega
    | some ad =>
      refine ⟨some (ad.add (b * 2)), c - b, fun W => ?_, fun W h => ?_, fun e => by cases e⟩
      · rw [hr W]
        unfold sliced
        simp [hcb]
      · rcases h with rfl | ⟨bb, off, e, h'⟩
        · exact .inl (by simp)
        · injection e with e
          subst e
          have ea : (⟨bb, off, none⟩ : Addr).add (b * 2) = ⟨bb, off + b * 2, none⟩ := by unfold Addr.add; split <;> simp_all
          rw [ea]
          exact cls_drop (.inr ⟨bb, off, rfl, h'⟩) b
/-- The boxes of a call of Set. -/
structure SetW (w W : World) (no gsn : Int) (a : Option Addr) (n c : Nat) (h : Bool) (s : ByteArray) : Prop where
  p0 : W.cell? ⟨w.heap.size, 0, none⟩ = some (.int .i64 no)
  p1 : W.cell? ⟨w.heap.size, 1, none⟩ = some (.int .i64 gsn)
  p2 : W.cell? ⟨w.heap.size, 2, none⟩ = some (.slice a n c)
  v0 : W.cell? ⟨w.heap.size + 1, 0, none⟩ = some (.bool h)
  v1 : W.cell? ⟨w.heap.size + 1, 1, none⟩ = some (.string s)
  r0 : W.cell? ⟨w.heap.size + 1 + 1, 0, none⟩ = some (.int .i64 0)
  r1 : W.cell? ⟨w.heap.size + 1 + 1, 1, none⟩ = some (.int .i64 0)
  r2 : W.cell? ⟨w.heap.size + 1 + 1, 2, none⟩ = some (.slice none 0 0)
  rf : ∀ i, W.frozen? ⟨w.heap.size + 1 + 1, i, none⟩ = false
  bw : Below w.heap.size w W
theorem SetW.below {w W W' : World} {no gsn : Int} {a : Option Addr} {n c : Nat} {h : Bool} {s : ByteArray} (g : SetW w W no gsn a n c h s) (hb : Below W.heap.size W W') : SetW w W' no gsn a n c h s :=
  ⟨keep_cell hb g.p0, keep_cell hb g.p1, keep_cell hb g.p2, keep_cell hb g.v0, keep_cell hb g.v1, keep_cell hb g.r0, keep_cell hb g.r1, keep_cell hb g.r2, fun i => (hb.frozen (p := ⟨w.heap.size + 1 + 1, i, none⟩) (show w.heap.size + 1 + 1 < W.heap.size from block_lt g.r0)).trans (g.rf i), g.bw.trans (hb.mono g.bw.size)⟩
def setIn (w : World) (no gsn : Int) (a : Option Addr) (n c : Nat) (h : Bool) (s : ByteArray) : World :=
  ((w.alloc (.cells #[.int .i64 no, .int .i64 gsn, .slice a n c] 26)).alloc (.cells #[.bool h, .string s] 23)).alloc (.cells #[.int .i64 0, .int .i64 0, .slice none 0 0] 26)
theorem setIn_ok (w : World) (no gsn : Int) (a : Option Addr) (n c : Nat) (h : Bool) (s : ByteArray) : SetW w (setIn w no gsn a n c h s) no gsn a n c h s := by
  unfold setIn
  refine ⟨keep_alloc (keep_alloc (new_cell rfl rfl)), keep_alloc (keep_alloc (new_cell rfl rfl)), keep_alloc (keep_alloc (new_cell rfl rfl)), keep_alloc (new_cell (by rw [World.size_alloc]) rfl), keep_alloc (new_cell (by rw [World.size_alloc]) rfl), new_cell (by rw [World.size_alloc, World.size_alloc]) rfl, new_cell (by rw [World.size_alloc, World.size_alloc]) rfl, new_cell (by rw [World.size_alloc, World.size_alloc]) rfl, fun i => World.frozen?_alloc_at _ _ _ _ (by rw [World.size_alloc, World.size_alloc]), ?_⟩
  exact (((Below.refl _ _).alloc (Nat.le_refl _) _).alloc (by rw [World.size_alloc]; omega) _).alloc (by rw [World.size_alloc, World.size_alloc]; omega) _
/-- Set answers an error, and nothing. -/
def SetNo (w : World) (err : Int) (e : Ending) (w' : World) : Prop :=
  e = .returned (.tuple #[.agg #[.int .i64 0, .int .i64 0, .slice none 0 0], .int .i64 err]) ∧ Below w.heap.size w w'
section
variable (no gsn : Int) (a : Option Addr) (l : List (ByteArray × ByteArray)) (c : Nat) (key : ByteArray) (h : Bool) (s : ByteArray) (g : Int) (w : World)
/-- Where the key isn't there: with no value, or on a page that is full. -/
def SetMiss (l : List (ByteArray × ByteArray)) (h : Bool) (w : World) (e : Ending) (w' : World) : Prop :=
  (h = false ∧ SetNo w 7 e w') ∨ (h = true ∧ l.length = 8 ∧ SetNo w 4 e w')
end
/-- The cells behind a Set. -/
def newCl (l : List (ByteArray × ByteArray)) (key : ByteArray) (h : Bool) (s : ByteArray) (n : Nat) (fd : Bool) : List (ByteArray × ByteArray) :=
  l.take n ++ (if h = true then [(key, s)] else []) ++ l.drop (if fd = true then n + 1 else n)
def SetYes (no g : Int) (l : List (ByteArray × ByteArray)) (key : ByteArray) (h : Bool) (s : ByteArray) (w : World) (e : Ending) (w' : World) : Prop :=
  ∃ n v, PosOf l key n ∧ e = .returned (.tuple #[.agg #[.int .i64 no, .int .i64 g, v], .int .i64 0]) ∧ RowC w' w.heap.size v (newCl l key h s n (foundB l key n)) ∧ Below w.heap.size w w'
theorem RowC.fr {W W' : World} {B R : Nat} {v : Value} {l : List (ByteArray × ByteArray)} (h : RowC W B v l) (hg : W.grownBy W' (some R)) (hR : R < B) : RowC W' B v l :=
  World.ownsRow.kept h hg (by
    cases hv : v.ownBlock with
    | none => exact .inl rfl
    | some k =>
      have := (World.ownsRow.lt h k hv).1
      exact .inr (fun e => by injection e with e; omega))
section
variable (no gsn : Int) (a : Option Addr) (l : List (ByteArray × ByteArray)) (c : Nat) (key : ByteArray) (s : ByteArray) (g : Int) (w : World)
end
/-- The cells with a key's value put, or taken away, where keys rise. -/
def insL (key : ByteArray) (h : Bool) (s : ByteArray) : List (ByteArray × ByteArray) := if h = true then [(key, s)] else []
def ptL : List (ByteArray × ByteArray) → ByteArray → Bool → ByteArray → List (ByteArray × ByteArray)
  | [], key, h, s => insL key h s
  | c :: l, key, h, s => if c.1 = key then insL key h s ++ l else if upC key c.1 = true then insL key h s ++ c :: l else c :: ptL l key h s
def UpL (l : List (ByteArray × ByteArray)) : Prop := l.Pairwise (fun a b => upC a.1 b.1 = true)
theorem upL_of {l : List (ByteArray × ByteArray)} (h : RiseL l) : UpL l := by
  unfold UpL
  rw [List.pairwise_iff_getElem]
  intro i j hi hj hij
  have := h i j hij hj
  simpa only [List.getD_eq_getElem?_getD, List.getElem?_eq_getElem hi, List.getElem?_eq_getElem hj, Option.getD_some] using this
theorem upC_ne {a b : ByteArray} (h : upC a b = true) : a ≠ b := fun e => by subst e; rw [upC_irrefl] at h; cases h
theorem upC_asymm {a b : ByteArray} (h : upC a b = true) : upC b a = false := by
  cases h2 : upC b a
  · rfl
  · have := upC_trans h h2; rw [upC_irrefl] at this; cases this
theorem upC_other {a b : ByteArray} (h : a ≠ b) (h2 : upC b a ≠ true) : upC a b = true := by
  have h3 := upC_tri a b
  rw [ba_beqL, decide_eq_false h, Bool.or_false] at h3
  rw [h3]
  simpa using h2
/-- No key of the rest is this one, where all are above it. -/
theorem get_above {l : List (ByteArray × ByteArray)} {key : ByteArray} (h : ∀ x ∈ l, upC key x.1 = true) : clGet l key = (false, ⟨#[]⟩) := by
  induction l with
  | nil => rfl
  | cons c l ih =>
    have h1 := upC_ne (h c (List.mem_cons_self ..))
    rw [clGet, if_neg (fun e => h1 e.symm)]
    exact ih (fun x hx => h x (List.mem_cons_of_mem _ hx))
theorem put_above {l : List (ByteArray × ByteArray)} {key : ByteArray} {h : Bool} {s : ByteArray} (ha : ∀ x ∈ l, upC key x.1 = true) : ptL l key h s = insL key h s ++ l := by
  cases l with
  | nil => simp [ptL]
  | cons c l =>
    have h0 := ha c (List.mem_cons_self ..)
    have h1 := upC_ne h0
    rw [ptL, if_neg (fun e => h1 e.symm), if_pos h0]
theorem ptL_back {l : List (ByteArray × ByteArray)} (hu : UpL l) (key : ByteArray) (h : Bool) (s : ByteArray) :
    ptL (ptL l key h s) key (clGet l key).1 (clGet l key).2 = l := by
  induction l with
  | nil =>
    cases h
    · rfl
    · show ptL [(key, s)] key false ⟨#[]⟩ = []
      rw [ptL, if_pos rfl]; rfl
  | cons c l ih =>
    have hu' := hu
    unfold UpL at hu'
    rw [List.pairwise_cons] at hu'
    obtain ⟨hab, hul⟩ := hu'
    by_cases e : c.1 = key
    · have hab' : ∀ x ∈ l, upC key x.1 = true := fun x hx => by rw [← e]; exact hab x hx
      have hc : (key, c.2) = c := by rw [← e]
      rw [ptL, if_pos e, clGet, if_pos e]
      cases h
      · show ptL ([] ++ l) key true c.2 = _
        rw [List.nil_append, put_above hab']
        show (key, c.2) :: l = _
        rw [hc]
      · show ptL ((key, s) :: l) key true c.2 = _
        rw [ptL, if_pos rfl]
        show (key, c.2) :: l = _
        rw [hc]
    · by_cases e2 : upC key c.1 = true
      · have hab' : ∀ x ∈ c :: l, upC key x.1 = true := fun x hx => by
          rcases List.mem_cons.1 hx with rfl | hx
          · exact e2
          · exact upC_trans e2 (hab x hx)
        rw [put_above hab', get_above hab']
        cases h
        · show ptL ([] ++ c :: l) key false ⟨#[]⟩ = _
          rw [List.nil_append, put_above hab']; rfl
        · show ptL ((key, s) :: c :: l) key false ⟨#[]⟩ = _
          rw [ptL, if_pos rfl]; rfl
      · rw [ptL, if_neg e, if_neg e2, clGet, if_neg e, ptL, if_neg e, if_neg e2, ih hul]
theorem get_ins {l : List (ByteArray × ByteArray)} {key : ByteArray} {h : Bool} {s : ByteArray} (ha : ∀ x ∈ l, upC key x.1 = true) : clGet (insL key h s ++ l) key = (h, if h = true then s else ⟨#[]⟩) := by
  cases h
  · show clGet ([] ++ l) key = _
    rw [List.nil_append, get_above ha]; rfl
  · show clGet ((key, s) :: l) key = _
    rw [clGet, if_pos rfl]; rfl
theorem get_put {l : List (ByteArray × ByteArray)} (hu : UpL l) (key : ByteArray) (h : Bool) (s : ByteArray) : clGet (ptL l key h s) key = (h, if h = true then s else ⟨#[]⟩) := by
  induction l with
  | nil => rw [ptL, ← List.append_nil (insL key h s)]; exact get_ins (fun x hx => by cases hx)
  | cons c l ih =>
    have hu' := hu
    unfold UpL at hu'
    rw [List.pairwise_cons] at hu'
    obtain ⟨hab, hul⟩ := hu'
    by_cases e : c.1 = key
    · rw [ptL, if_pos e]
      exact get_ins (fun x hx => by rw [← e]; exact hab x hx)
    · by_cases e2 : upC key c.1 = true
      · rw [ptL, if_neg e, if_pos e2]
        refine get_ins (fun x hx => ?_)
        rcases List.mem_cons.1 hx with rfl | hx
        · exact e2
        · exact upC_trans e2 (hab x hx)
      · rw [ptL, if_neg e, if_neg e2, clGet, if_neg e]
        exact ih hul
theorem mem_ins {key : ByteArray} {h : Bool} {s : ByteArray} {x : ByteArray × ByteArray} (hx : x ∈ insL key h s) : x = (key, s) ∧ h = true := by
  unfold insL at hx
  cases h
  · simp at hx
  · simp at hx; exact ⟨hx, rfl⟩
theorem mem_put {l : List (ByteArray × ByteArray)} {key : ByteArray} {h : Bool} {s : ByteArray} {x : ByteArray × ByteArray} (hx : x ∈ ptL l key h s) : (x = (key, s) ∧ h = true) ∨ x ∈ l := by
  induction l with
  | nil => exact .inl (mem_ins hx)
  | cons c l ih =>
    rw [ptL] at hx
    split at hx
    · rcases List.mem_append.1 hx with hx | hx
      · exact .inl (mem_ins hx)
      · exact .inr (List.mem_cons_of_mem _ hx)
    · split at hx
      · rcases List.mem_append.1 hx with hx | hx
        · exact .inl (mem_ins hx)
        · exact .inr hx
      · rcases List.mem_cons.1 hx with rfl | hx
        · exact .inr (List.mem_cons_self ..)
        · rcases ih hx with h | h
          · exact .inl h
          · exact .inr (List.mem_cons_of_mem _ h)
theorem put_up {l : List (ByteArray × ByteArray)} (hu : UpL l) (key : ByteArray) (h : Bool) (s : ByteArray) : UpL (ptL l key h s) := by
  induction l with
  | nil =>
    unfold UpL ptL insL
    cases h <;> simp
  | cons c l ih =>
    have hu' := hu
    unfold UpL at hu'
    rw [List.pairwise_cons] at hu'
    obtain ⟨hab, hul⟩ := hu'
    have hi : ∀ r : List (ByteArray × ByteArray), UpL r → (∀ x ∈ r, upC key x.1 = true) → UpL (insL key h s ++ r) := fun r hr hk => by
      cases h
      · exact hr
      · show UpL ((key, s) :: r)
        unfold UpL
        rw [List.pairwise_cons]
        exact ⟨hk, hr⟩
    by_cases e : c.1 = key
    · rw [ptL, if_pos e]
      exact hi l hul (fun x hx => by rw [← e]; exact hab x hx)
    · by_cases e2 : upC key c.1 = true
      · rw [ptL, if_neg e, if_pos e2]
        refine hi _ hu (fun x hx => ?_)
        rcases List.mem_cons.1 hx with rfl | hx
        · exact e2
        · exact upC_trans e2 (hab x hx)
      · rw [ptL, if_neg e, if_neg e2]
        unfold UpL
        rw [List.pairwise_cons]
        refine ⟨fun x hx => ?_, ih hul⟩
        rcases mem_put hx with ⟨rfl, _⟩ | hx
        · exact upC_other e e2
        · exact hab x hx
theorem len_ins (key : ByteArray) (h : Bool) (s : ByteArray) : (insL key h s).length ≤ 1 := by
  unfold insL
  cases h <;> simp
theorem len_put {l : List (ByteArray × ByteArray)} (hu : UpL l) (key : ByteArray) (h : Bool) (s : ByteArray) : (ptL l key h s).length ≤ l.length + 1 ∧ ((clGet l key).1 = true → (ptL l key h s).length ≤ l.length) ∧ (h = false → (ptL l key h s).length ≤ l.length) := by
  induction l with
  | nil =>
    have := len_ins key h s
    refine ⟨by simpa [ptL] using this, fun e => (by cases e), fun e => by subst e; simp [ptL, insL]⟩
  | cons c l ih =>
    have hu' := hu
    unfold UpL at hu'
    rw [List.pairwise_cons] at hu'
    obtain ⟨hab, hul⟩ := hu'
    have ih := ih hul
    have h1 := len_ins key h s
    have h2 : h = false → (insL key h s).length = 0 := fun e => by subst e; rfl
    by_cases e : c.1 = key
    · rw [ptL, if_pos e]
      simp only [List.length_append, List.length_cons]
      exact ⟨by omega, fun _ => by omega, fun _ => by omega⟩
    · by_cases e2 : upC key c.1 = true
      · have hg : clGet (c :: l) key = (false, ⟨#[]⟩) := get_above (fun x hx => by
          rcases List.mem_cons.1 hx with rfl | hx
          · exact e2
          · exact upC_trans e2 (hab x hx))
        rw [hg, ptL, if_neg e, if_pos e2]
        simp only [List.length_append, List.length_cons]
        exact ⟨by omega, fun hh => (by cases hh), fun hh => by have := h2 hh; omega⟩
      · rw [ptL, if_neg e, if_neg e2, clGet, if_neg e]
        simp only [List.length_cons]
        exact ⟨by omega, fun hh => by have := ih.2.1 hh; omega, fun hh => by have := ih.2.2 hh; omega⟩
theorem cellsB_parts {l : List (ByteArray × ByteArray)} (h : cellsB l = true) : UpL l ∧ ∀ x ∈ l, kyOk x.1 = true ∧ x.2.size ≤ 16 := by
  refine ⟨upL_of (rise_of h), fun x hx => ?_⟩
  unfold cellsB at h
  rw [List.all_eq_true] at h
  obtain ⟨k, hk, rfl⟩ := List.getElem_of_mem hx
  have := h k (List.mem_range.2 hk)
  unfold cellB at this
  simp only [List.getD_eq_getElem?_getD, List.getElem?_eq_getElem hk, Option.getD_some, Bool.and_eq_true, decide_eq_true_iff] at this
  exact ⟨this.1.1, this.1.2⟩
theorem cellsB_mk {l : List (ByteArray × ByteArray)} (hu : UpL l) (h : ∀ x ∈ l, kyOk x.1 = true ∧ x.2.size ≤ 16) : cellsB l = true := by
  refine cellsB_yes (fun m hm => ?_)
  unfold cellB
  obtain ⟨h1, h2⟩ := h _ (mem_cl hm)
  rw [h1, decide_eq_true h2, Bool.true_and, Bool.true_and]
  by_cases e : m = 0
  · rw [decide_eq_true e]; rfl
  · rw [decide_eq_false e, Bool.false_or]
    unfold UpL at hu
    rw [List.pairwise_iff_getElem] at hu
    have := hu (m - 1) m (by omega) hm (by omega)
    simpa only [List.getD_eq_getElem?_getD, List.getElem?_eq_getElem hm, List.getElem?_eq_getElem (show m - 1 < l.length by omega), Option.getD_some] using this
theorem pgOk_mk {no gsn : Int} {l : List (ByteArray × ByteArray)} (h1 : 0 ≤ no) (h2 : no < 64) (h3 : 0 ≤ gsn) (h4 : gsn ≤ 4611686018427387903) (h5 : l.length ≤ 8) (h6 : cellsB l = true) : pgOk no gsn l = true := by
  unfold pgOk
  rw [decide_eq_true h1, decide_eq_true h2, decide_eq_true h3, decide_eq_true h4, decide_eq_true h5, h6]; rfl
/-- The place of a key, and what is put there. -/
theorem pos_cons {c : ByteArray × ByteArray} {l : List (ByteArray × ByteArray)} {key : ByteArray} {n : Nat} (h : PosOf (c :: l) key (n + 1)) : PosOf l key n :=
  ⟨by have := h.le; simp at this; omega, fun m hm => h.lo (m + 1) (by omega), fun m h1 h2 => h.hi (m + 1) (by omega) (by simp; omega)⟩
theorem newCl_put {l : List (ByteArray × ByteArray)} {key : ByteArray} {n : Nat} (hp : PosOf l key n) (h : Bool) (s : ByteArray) : newCl l key h s n (foundB l key n) = ptL l key h s := by
  induction l generalizing n with
  | nil =>
    have := hp.le
    simp at this
    subst this
    unfold newCl ptL insL foundB
    simp
  | cons c l ih =>
    cases n with
    | zero =>
      have h0 := hp.hi 0 (Nat.le_refl _) (by simp)
      have h0 : upC c.1 key = false := h0
      have hf : foundB (c :: l) key 0 = decide (c.1 = key) := by
        unfold foundB
        simp
      unfold newCl
      rw [hf, ptL]
      show [] ++ insL key h s ++ _ = _
      rw [List.nil_append]
      by_cases e : c.1 = key
      · rw [decide_eq_true e, if_pos rfl, if_pos e]; rfl
      · rw [decide_eq_false e, if_neg (by decide), if_neg e, if_pos (upC_other (fun x => e x.symm) (by rw [h0]; decide))]; rfl
    | succ n =>
      have h0 := hp.lo 0 (Nat.succ_pos _)
      have h0 : upC c.1 key = true := h0
      have hf : foundB (c :: l) key (n + 1) = foundB l key n := by
        unfold foundB
        simp
      have ih := ih (pos_cons hp)
      rw [hf, ptL, if_neg (upC_ne h0), if_neg (by rw [upC_asymm h0]; decide), ← ih]
      unfold newCl
      cases foundB l key n <;> rfl
theorem found_get {l : List (ByteArray × ByteArray)} {key : ByteArray} {n : Nat} (hu : UpL l) (hp : PosOf l key n) : foundB l key n = (clGet l key).1 := by
  induction l generalizing n with
  | nil =>
    unfold foundB
    simp [clGet]
  | cons c l ih =>
    have hu' := hu
    unfold UpL at hu'
    rw [List.pairwise_cons] at hu'
    obtain ⟨hab, hul⟩ := hu'
    cases n with
    | zero =>
      have h0 : upC c.1 key = false := hp.hi 0 (Nat.le_refl _) (by simp)
      have hf : foundB (c :: l) key 0 = decide (c.1 = key) := by
        unfold foundB
        simp
      rw [hf]
      by_cases e : c.1 = key
      · rw [decide_eq_true e, clGet, if_pos e]
      · rw [decide_eq_false e]
        have e2 := upC_other (fun x => e x.symm) (by rw [h0]; decide)
        rw [get_above (fun x hx => by
          rcases List.mem_cons.1 hx with rfl | hx
          · exact e2
          · exact upC_trans e2 (hab x hx))]
    | succ n =>
      have h0 : upC c.1 key = true := hp.lo 0 (Nat.succ_pos _)
      have hf : foundB (c :: l) key (n + 1) = foundB l key n := by
        unfold foundB
        simp
      rw [hf, clGet, if_neg (upC_ne h0)]
      exact ih hul (pos_cons hp)
/-- What Set answers: the error's number. -/
def setE (no gsn : Int) (l : List (ByteArray × ByteArray)) (key : ByteArray) (h : Bool) (s : ByteArray) (g : Int) : Int :=
  if pgOk no gsn l = false ∨ kyOk key = false ∨ vlOk h s = false ∨ g ≤ gsn ∨ 4611686018427387903 < g then 1 else
  if h = false ∧ (clGet l key).1 = false then 7 else
  if h = true ∧ (clGet l key).1 = false ∧ l.length = 8 then 4 else 0
/-- Set's answer, by its error. -/
def SetAns (no gsn : Int) (l : List (ByteArray × ByteArray)) (key : ByteArray) (h : Bool) (s : ByteArray) (g : Int) (w : World) (e : Ending) (w' : World) : Prop :=
  (setE no gsn l key h s g ≠ 0 ∧ e = .returned (.tuple #[.agg #[.int .i64 0, .int .i64 0, .slice none 0 0], .int .i64 (setE no gsn l key h s g)]) ∧ Below w.heap.size w w') ∨
  (setE no gsn l key h s g = 0 ∧ ∃ a c, e = .returned (.tuple #[.agg #[.int .i64 no, .int .i64 g, .slice a (ptL l key h s).length c], .int .i64 0]) ∧ RowC w' w.heap.size (.slice a (ptL l key h s).length c) (ptL l key h s) ∧ Below w.heap.size w w')
theorem setE_bad {no gsn : Int} {l : List (ByteArray × ByteArray)} {key : ByteArray} {h : Bool} {s : ByteArray} {g : Int} (hb : pgOk no gsn l = false ∨ kyOk key = false ∨ vlOk h s = false ∨ g ≤ gsn ∨ 4611686018427387903 < g) : setE no gsn l key h s g = 1 := by
  unfold setE; rw [if_pos hb]
theorem setE_ok {no gsn : Int} {l : List (ByteArray × ByteArray)} {key : ByteArray} {h : Bool} {s : ByteArray} {g : Int} (he : setE no gsn l key h s g = 0) :
    pgOk no gsn l = true ∧ kyOk key = true ∧ vlOk h s = true ∧ gsn < g ∧ g ≤ 4611686018427387903 ∧ ¬ (h = false ∧ (clGet l key).1 = false) ∧ ¬ (h = true ∧ (clGet l key).1 = false ∧ l.length = 8) := by
  unfold setE at he
  by_cases hb : pgOk no gsn l = false ∨ kyOk key = false ∨ vlOk h s = false ∨ g ≤ gsn ∨ 4611686018427387903 < g
  · rw [if_pos hb] at he; cases he
  · rw [if_neg hb] at he
    have h1 : pgOk no gsn l = true := by
      cases q : pgOk no gsn l
      · exact absurd (.inl q) hb
      · rfl
    have h2 : kyOk key = true := by
      cases q : kyOk key
      · exact absurd (.inr (.inl q)) hb
      · rfl
    have h3 : vlOk h s = true := by
      cases q : vlOk h s
      · exact absurd (.inr (.inr (.inl q))) hb
      · rfl
    have h4 : ¬ g ≤ gsn := fun q => hb (.inr (.inr (.inr (.inl q))))
    have h5 : ¬ 4611686018427387903 < g := fun q => hb (.inr (.inr (.inr (.inr q))))
    by_cases c7 : h = false ∧ (clGet l key).1 = false
    · rw [if_pos c7] at he; cases he
    · rw [if_neg c7] at he
      by_cases c4 : h = true ∧ (clGet l key).1 = false ∧ l.length = 8
      · rw [if_pos c4] at he; cases he
      · exact ⟨h1, h2, h3, by omega, by omega, c7, c4⟩
theorem set_yes_ans {no gsn : Int} {l : List (ByteArray × ByteArray)} {key : ByteArray} {h : Bool} {s : ByteArray} {g : Int} {w : World} {e : Ending} {w' : World} (he : setE no gsn l key h s g = 0) (hy : SetYes no g l key h s w e w') : SetAns no gsn l key h s g w e w' := by
  obtain ⟨n, v, hp, rfl, hr, hb⟩ := hy
  rw [newCl_put hp] at hr
  obtain ⟨a, c, rfl, _⟩ := hr.cls
  exact .inr ⟨he, a, c, rfl, hr, hb⟩
/-- What is put on a right page is right. -/
theorem put_right {no gsn : Int} {l : List (ByteArray × ByteArray)} {key : ByteArray} {h : Bool} {s : ByteArray} {g : Int} (he : setE no gsn l key h s g = 0) : pgOk no g (ptL l key h s) = true := by
  obtain ⟨h1, h2, h3, h4, h5, h6, h7⟩ := setE_ok he
  obtain ⟨p1, p2, p3, p4, p5, p6⟩ := pgOk_parts h1
  obtain ⟨hu, hx⟩ := cellsB_parts p6
  obtain ⟨l1, l2, l3⟩ := len_put hu key h s
  refine pgOk_mk p1 p2 (by omega) h5 ?_ (cellsB_mk (put_up hu key h s) (fun x hm => ?_))
  · cases hf : (clGet l key).1 with
    | true => have := l2 hf; omega
    | false =>
      cases h with
      | false => exact absurd ⟨rfl, hf⟩ h6
      | true =>
        have : l.length ≠ 8 := fun q => h7 ⟨rfl, hf, q⟩
        omega
  · rcases mem_put hm with ⟨rfl, rfl⟩ | hm
    · refine ⟨h2, ?_⟩
      rw [vl_true] at h3
      exact of_decide_eq_true h3
    · exact hx x hm
theorem get_ok {l : List (ByteArray × ByteArray)} {key : ByteArray} (h : ∀ x ∈ l, kyOk x.1 = true ∧ x.2.size ≤ 16) : vlOk (clGet l key).1 (clGet l key).2 = true := by
  induction l with
  | nil =>
    show vlOk false ⟨#[]⟩ = true
    unfold vlOk
    rw [ByteArray.toList_eq]; rfl
  | cons c l ih =>
    rw [clGet]
    split
    · show vlOk true c.2 = true
      rw [vl_true]
      exact decide_eq_true (h c (List.mem_cons_self ..)).2
    · exact ih (fun x hx => h x (List.mem_cons_of_mem _ hx))
theorem vl_false {s : ByteArray} (h : vlOk false s = true) : s = ⟨#[]⟩ := by
  unfold vlOk at h
  simp at h
  rw [ByteArray.toList_eq] at h
  cases s with | mk a =>
  have : a.toList = [] := h
  congr 1
  exact Array.toList_inj.1 this
/-- What Put's loop adds, from a place on. -/
def putT (key s : ByteArray) : List (ByteArray × ByteArray) → Bool → List (ByteArray × ByteArray)
  | [], d => if d = true then [] else [(key, s)]
  | c :: r, d => (if d = false ∧ upC c.1 key = false then [(key, s)] else []) ++ (if c.1 = key then [] else [c]) ++ putT key s r (d || !upC c.1 key)
theorem putT_above {key s : ByteArray} : ∀ {l : List (ByteArray × ByteArray)}, (∀ x ∈ l, upC key x.1 = true) → putT key s l true = l
  | [], _ => rfl
  | c :: l, h => by
    have h1 := upC_ne (h c (List.mem_cons_self ..))
    rw [putT, if_neg (fun q => by cases q.1), if_neg (fun e => h1 e.symm), Bool.true_or, putT_above (fun x hx => h x (List.mem_cons_of_mem _ hx))]
    rfl
theorem putT_all {key s : ByteArray} (h : Bool) : ∀ {l : List (ByteArray × ByteArray)}, UpL l → putT key s l (!h) = ptL l key h s
  | [], _ => by cases h <;> rfl
  | c :: l, hu => by
    have hu' := hu
    unfold UpL at hu'
    rw [List.pairwise_cons] at hu'
    obtain ⟨hab, hul⟩ := hu'
    have ih := putT_all (key := key) (s := s) h hul
    rw [putT, ptL]
    by_cases e : c.1 = key
    · have hab' : ∀ x ∈ l, upC key x.1 = true := fun x hx => by rw [← e]; exact hab x hx
      have hf : upC c.1 key = false := by rw [e]; exact upC_irrefl key
      rw [if_pos e, if_pos e, hf]
      cases h
      · rw [if_neg (fun q => by cases q.1)]
        show [] ++ [] ++ putT key s l true = _
        rw [putT_above hab']; rfl
      · rw [if_pos ⟨rfl, rfl⟩]
        show [(key, s)] ++ [] ++ putT key s l true = _
        rw [putT_above hab']; rfl
    · rw [if_neg e, if_neg e]
      by_cases e2 : upC key c.1 = true
      · have hf := upC_asymm e2
        have hab' : ∀ x ∈ l, upC key x.1 = true := fun x hx => upC_trans e2 (hab x hx)
        rw [if_pos e2, hf]
        cases h
        · rw [if_neg (fun q => by cases q.1)]
          show [] ++ [c] ++ putT key s l true = _
          rw [putT_above hab']; rfl
        · rw [if_pos ⟨rfl, rfl⟩]
          show [(key, s)] ++ [c] ++ putT key s l true = _
          rw [putT_above hab']; rfl
      · have hf := upC_other e e2
        rw [if_neg e2, hf, if_neg (fun q => by cases q.2)]
        show [] ++ [c] ++ putT key s l ((!h) || false) = _
        rw [Bool.or_false, ih]; rfl
theorem putT_drop {key s : ByteArray} {l : List (ByteArray × ByteArray)} {k : Nat} (hk : k < l.length) (d : Bool) : putT key s (l.drop k) d = (if d = false ∧ upC (l.getD k noCl).1 key = false then [(key, s)] else []) ++ (if (l.getD k noCl).1 = key then [] else [l.getD k noCl]) ++ putT key s (l.drop (k + 1)) (d || !upC (l.getD k noCl).1 key) := by
  rw [List.drop_eq_getElem_cons hk, putT, List.getD_eq_getElem?_getD, List.getElem?_eq_getElem hk]; rfl
/-- append to a row of cells of the call's own, as a step of a region that draws. -/
theorem step_append_cls {ops : Array Oper} {o : Oper} {a : Act} {w : World} {K : Act → World → Prop} {Q : Exit → Act → World → Prop} {E : Prop}
    (hg : o.guard = none) (s x : Operand) (hop : o.op = Op.call { callee := Callee.builtin Builtin.append, args := #[s, x], argTypes := #[24, 24] })
    (B : Nat) (v : Value) (l : List (ByteArray × ByteArray)) (ad : Addr) (m : List (ByteArray × ByteArray)) (c : Nat) (hs : a.eval s = v) (hown : RowC w B v l) (hx : a.eval x = .slice (some ad) m.length c) (hm : ∀ j u, (clsC m)[j]? = some u → w.cell? (ad.add j) = some u) (h10 : l.length ≤ 1000) (h11 : m.length ≤ 1000) (hB : B ≤ w.heap.size)
    (hK : ∀ v' w', RowC w' B v' (l ++ m) → w.grownBy w' v.ownBlock → K (a.put o.dst v') w') :
    if Region.wanted o (yielded ops a.tmps) = true then Oper.wp Tryz.prog o a w K Q else E := by
  have hw : Region.wanted o (yielded ops a.tmps) = true := by simp [Region.wanted, hg]
  rw [if_pos hw]
  obtain ⟨i0, hi, hzz⟩ := Option.map_eq_some_iff.1 infoC
  simp only [Prod.mk.injEq] at hzz
  obtain ⟨hz0, hz1, hz2⟩ := hzz
  obtain ⟨v', w', hrun, r1, r2, _⟩ := run_append_own (P := Tryz.prog) w B 24 o.type 39 i0 _ 2 32 Tryz.underlying24 hi hz0 hz1 hz2 rfl (by decide) v l.length (clsC l) hown ad m.length c (clsC m) (clsC_len m) hm (cls_one m) (by unfold maxLen; omega) (by omega) hB
  unfold Oper.wp
  simp [execOp, hop, resolve, invoke, builtin, hs, hx, hrun, Result.andThen]
  refine hK v' w' ?_ r2
  unfold RowC
  rw [List.length_append, clsC_append]; exact r1
/-- What stays there in Put's loop beside the page that is made. -/
structure PtE (W : World) (A B : Nat) (a : Option Addr) (l : List (ByteArray × ByteArray)) (c : Nat) (h : Bool) (s : ByteArray) : Prop where
  p2 : W.cell? ⟨A, 2, none⟩ = some (.slice a l.length c)
  v1 : W.cell? ⟨B, 1, none⟩ = some (.string s)
  cl : ClsAt W a l
theorem PtE.below {W X : World} {A B : Nat} {a : Option Addr} {l : List (ByteArray × ByteArray)} {c : Nat} {h : Bool} {s : ByteArray} (e : PtE W A B a l c h s) (hb : Below W.heap.size W X) : PtE X A B a l c h s := ⟨keep_cell hb e.p2, keep_cell hb e.v1, e.cl.below hb⟩
theorem TkW.far {w W X : World} {P : Nat} {no g : Int} {v : Value} {l : List (ByteArray × ByteArray)} (h : TkW w W P no g v l) (hg : W.grownBy X v.ownBlock) {p : Addr} (hp : p.block < P + 1) : X.cell? p = W.cell? p := by
  have hs : P + 1 ≤ W.heap.size := block_lt h.p0
  have hb : Below (P + 1) W X := (Below.refl _ _).grown hg hs (fun k hk => (h.row.lt k hk).1)
  exact hb.cell hp
set_option maxRecDepth 100000 in
set_option maxHeartbeats 4000000 in
theorem refPut_any (no gsn : Int) (a : Option Addr) (l : List (ByteArray × ByteArray)) (c : Nat) (key : ByteArray) (h : Bool) (s : ByteArray) (g : Int) (w : World) (hn : l.length ≤ 8) (hu : UpL l) (ha : ClsAt w a l) :
    Calls Tryz.prog 26 #[.agg #[.int .i64 no, .int .i64 gsn, .slice a l.length c], .string key, .agg #[.bool h, .string s], .int .i64 g] w fun e w' => ∃ a' c', e = .returned (.agg #[.int .i64 no, .int .i64 g, .slice a' (ptL l key h s).length c']) ∧ RowC w' w.heap.size (.slice a' (ptL l key h s).length c') (ptL l key h s) ∧ Below w.heap.size w w' := by
  have hL := Lib.hid (putT_all (key := key) (s := s) h hu)
  have hlen : (ptL l key h s).length ≤ 9 := by have := (len_put hu key h s).1; omega
  generalize ptL l key h s = L at hL hlen ⊢
  have E0 : Hid (PtE ((w.alloc (.cells #[.int .i64 no, .int .i64 gsn, .slice a l.length c] 26)).alloc (.cells #[.bool h, .string s] 23)) w.heap.size (w.heap.size + 1) a l c h s) := ⟨keep_alloc (new_cell rfl rfl), new_cell (by rw [World.size_alloc]) rfl, ha.below (((Below.refl _ _).alloc (Nat.le_refl _) _).alloc (by rw [World.size_alloc]; omega) _)⟩
  have HB0 : Hid (Below w.heap.size w ((w.alloc (.cells #[.int .i64 no, .int .i64 gsn, .slice a l.length c] 26)).alloc (.cells #[.bool h, .string s] 23))) := bw_alloc (bw_alloc (Below.refl _ _))
  have hsz : ((w.alloc (.cells #[.int .i64 no, .int .i64 gsn, .slice a l.length c] 26)).alloc (.cells #[.bool h, .string s] 23)).heap.size = w.heap.size + 1 + 1 := by rw [World.size_alloc, World.size_alloc]
  clear hu ha
  go_enter Tryz.func26, Tryz.ntmps26
  go_wp2
  generalize (w.alloc (.cells #[.int .i64 no, .int .i64 gsn, .slice a l.length c] 26)).alloc (.cells #[.bool h, .string s] 23) = W0 at *
  rw [← hsz]
  have R0 := Lib.hid (tkR_new W0 26)
  have hs1 : (W0.alloc (.cells #[.int .i64 0, .int .i64 0, .slice none 0 0] 26)).heap.size = W0.heap.size + 1 := World.size_alloc _ _
  generalize W0.alloc (.cells #[.int .i64 0, .int .i64 0, .slice none 0 0] 26) = W1 at *
  have T0 := Lib.hid (tkW_new R0.out (by omega) no g)
  rw [← hs1]
  generalize W1.alloc (.cells #[.int .i64 no, .int .i64 g, .slice none 0 0] 26) = W2 at *
  generalize W1.heap.size = P at *
  generalize hpa : w.heap.size = PA at *
  have HPA := Lib.hid hpa
  clear hpa
  have hPA : Hid (PA < P + 1) := by show PA < P + 1; omega
  have hPA2 : Hid (PA < P) := by show PA < P; omega
  have HS1 := Lib.hid hs1
  clear hsz R0 hs1

  go_loopw [10, 11] (fun dv i wr => ∃ (k : Nat) (d : Bool) (O : List (ByteArray × ByteArray)) (v : Value), k ≤ l.length ∧ i = .int .i64 k ∧ dv = .bool d ∧ O.length ≤ 2 * k ∧ Hid (O ++ putT key s (l.drop k) d = L) ∧ Hid (TkW W0 wr P no g v O)) (fun _ i _ => l.length - (intOf i).toNat)
  case atStart => exact ⟨0, !h, [], _, Nat.zero_le _, rfl, rfl, by simp, by rw [Hid, List.nil_append]; exact hL.out, T0⟩
  case round =>
    obtain ⟨k, d, O, v, hk, rfl, rfl, hO, HL, HT⟩ := hrel
    rename World => wa
    clear hL T0
    have hbw := HT.out.res.bw
    have EA := Lib.hid (E0.out.below hbw)
    have p2 := EA.out.p2
    have v1 := EA.out.v1
    have hO9 : O.length ≤ 1000 := by omega
    by_cases hlt : k < l.length
    · have hk0 : (0 : Int) ≤ (k : Int) := by omega
      have hk1 : (k : Int) < (l.length : Int) := by omega
      obtain ⟨b, off, rfl, c1, c2⟩ := EA.out.cl.at hlt
      have hbP2 : Hid (b < P) := by
        obtain ⟨b', off', e', d1, _⟩ := E0.out.cl.at hlt
        injection e' with e'
        injection e' with e1 e2
        subst e1
        have := block_lt d1
        show b < P
        have : b < W0.heap.size := this
        have := HS1.out
        omega
      have hbP : Hid (b < P + 1) := Nat.lt_succ_of_lt hbP2.out
      rw [putT_drop hlt] at HL
      have HU : upC (l.getD k noCl).1 key = Op.bytesLess (l.getD k noCl).1.toList key.toList := rfl
      rw [show l.getD k noCl = ((l.getD k noCl).1, (l.getD k noCl).2) from rfl] at HL
      simp only at HL
      rw [HU] at HL
      clear HU EA hbw
      generalize (l.getD k noCl).1 = x at *
      generalize (l.getD k noCl).2 = y at *
      cases d with
      | true =>
        rw [if_neg (fun q => by cases q.1)] at HL
        have q2 := HT.out.p2
        have qf := HT.out.pf
        clear v1
        by_cases e : x = key
        · subst e
          rw [if_pos rfl] at HL
          have HL9 : Hid (O ++ putT x s (l.drop (k + 1)) true = L) := by rw [Hid, ← HL.out]; simp []
          clear HL
          go_wp2
          go_roundw
          case rel => exact ⟨k + 1, true, O, _, by omega, by go_num, rfl, by (first | omega | (simp only [List.length_append, List.length_cons, List.length_nil]; omega)), HL9, HT⟩
          case measure => simp [intOf]; omega
        · have f1 := ba_neL e
          have f2 := ba_neL' e
          rw [if_neg e] at HL
          have HL9 : Hid ((O ++ [(x, y)]) ++ putT key s (l.drop (k + 1)) true = L) := by rw [Hid, ← HL.out]; simp []
          clear HL e
          have hyz : Below wa.heap.size wa (wa.alloc (.cells #[.string x, .string y] 39)).drew := ((Below.refl _ _).alloc (Nat.le_refl _) _).drew
          have T7 := Lib.hid (HT.out.below hyz)
          have HPZ : Hid (P + 1 ≤ (wa.alloc (.cells #[.string x, .string y] 39)).drew.heap.size) := block_lt T7.out.p0
          have MZ : Hid (∀ j u, (clsC [(x, y)])[j]? = some u → (wa.alloc (.cells #[.string x, .string y] 39)).drew.cell? ((⟨wa.heap.size, 0, none⟩ : Addr).add j) = some u) := fun j u hj => by
            match j, hj with
            | 0, hj => exact (new_cell rfl rfl).trans hj
            | 1, hj => exact (new_cell rfl rfl).trans hj
          clear hyz
          have qy := keep_alloc (o := .cells #[.string x, .string y] 39) q2
          go_upto_region 10 with fail
          go_region_law ((refine step_append_cls (by rfl) _ _ (by rfl) (P + 1) v O ⟨wa.heap.size, 0, none⟩ [(x, y)] 1 (by rfl) T7.out.row (by rfl) MZ.out (by omega) (by simp) HPZ.out ?_; intro v9 w9 r9 hg9; obtain ⟨a9, c9, rfl, _⟩ := r9.cls; generalize hn9 : (O ++ [(x, y)]).length = n9 at r9 ⊢; clear hn9; have qz := (T7.out.there hg9).1; have qf := (T7.out.there hg9).2; have T9 := Lib.hid (T7.out.put r9 hg9); clear r9 hg9 T7 MZ HPZ))
          all_goals go_wp2
          all_goals
            go_roundw
            case rel => exact ⟨k + 1, true, O ++ [(x, y)], _, by omega, by go_num, rfl, by (first | omega | (simp only [List.length_append, List.length_cons, List.length_nil]; omega)), HL9, T9⟩
            case measure => simp [intOf]; omega
      | false =>
        cases hu : Op.bytesLess x.toList key.toList with
        | true =>
          have e : x ≠ key := fun e => by
            subst e
            have := upC_irrefl x
            unfold upC at this
            rw [this] at hu
            cases hu
          have f1 := ba_neL e
          have f2 := ba_neL' e
          rw [if_neg (fun q => by rw [hu] at q; cases q.2), if_neg e, hu] at HL
          have HL9 : Hid ((O ++ [(x, y)]) ++ putT key s (l.drop (k + 1)) false = L) := by rw [Hid, ← HL.out]; simp
          have q2 := HT.out.p2
          have qf := HT.out.pf
          clear HL e v1
          have hyz : Below wa.heap.size wa (wa.alloc (.cells #[.string x, .string y] 39)).drew := ((Below.refl _ _).alloc (Nat.le_refl _) _).drew
          have T7 := Lib.hid (HT.out.below hyz)
          have HPZ : Hid (P + 1 ≤ (wa.alloc (.cells #[.string x, .string y] 39)).drew.heap.size) := block_lt T7.out.p0
          have MZ : Hid (∀ j u, (clsC [(x, y)])[j]? = some u → (wa.alloc (.cells #[.string x, .string y] 39)).drew.cell? ((⟨wa.heap.size, 0, none⟩ : Addr).add j) = some u) := fun j u hj => by
            match j, hj with
            | 0, hj => exact (new_cell rfl rfl).trans hj
            | 1, hj => exact (new_cell rfl rfl).trans hj
          clear hyz
          have qy := keep_alloc (o := .cells #[.string x, .string y] 39) q2
          go_upto_region 10 with fail
          go_region_law ((refine step_append_cls (by rfl) _ _ (by rfl) (P + 1) v O ⟨wa.heap.size, 0, none⟩ [(x, y)] 1 (by rfl) T7.out.row (by rfl) MZ.out (by omega) (by simp) HPZ.out ?_; intro v9 w9 r9 hg9; obtain ⟨a9, c9, rfl, _⟩ := r9.cls; generalize hn9 : (O ++ [(x, y)]).length = n9 at r9 ⊢; clear hn9; have qz := (T7.out.there hg9).1; have qf := (T7.out.there hg9).2; have T9 := Lib.hid (T7.out.put r9 hg9); clear r9 hg9 T7 MZ HPZ))
          all_goals go_wp2
          all_goals
            go_roundw
            case rel => exact ⟨k + 1, false, O ++ [(x, y)], _, by omega, by go_num, rfl, by (first | omega | (simp only [List.length_append, List.length_cons, List.length_nil]; omega)), HL9, T9⟩
            case measure => simp [intOf]; omega
        | false =>
          rw [if_pos ⟨rfl, hu⟩, hu] at HL
          have hy0 : Below wa.heap.size wa (wa.alloc (.cells #[.string key, .string s] 39)) := (Below.refl _ _).alloc (Nat.le_refl _) _
          have T8 := Lib.hid (HT.out.below hy0)
          have HPS : Hid (P + 1 ≤ (wa.alloc (.cells #[.string key, .string s] 39)).heap.size) := block_lt T8.out.p0
          have M8 : Hid (ClsAt (wa.alloc (.cells #[.string key, .string s] 39)) (some ⟨wa.heap.size, 0, none⟩) [(key, s)]) := .inr ⟨wa.heap.size, 0, rfl, fun i hi => by
            match i, hi with
            | 0, _ => exact ⟨new_cell rfl rfl, new_cell rfl rfl⟩⟩
          have q2 := HT.out.p2
          clear hy0
          go_wp2_with (at_builtin; refine append_cls rfl _ _ rfl (P + 1) v O (some ⟨wa.heap.size, 0, none⟩) [(key, s)] 1 rfl T8.out.row rfl M8.out (fun e => by cases e) hO9 (by simp) HPS.out ?_)
          intro v' w8 r1 hg
          obtain ⟨a', c', rfl, _⟩ := r1.cls
          obtain ⟨n', hn'⟩ : ∃ n, n = (O ++ [(key, s)]).length := ⟨_, rfl⟩
          rw [← hn'] at r1 ⊢
          clear hn'
          have hfar : ∀ {p : Addr} {u : Value}, p.block < P + 1 → wa.cell? p = some u → (w8.setCell ⟨P, 2, none⟩ (.slice a' n' c')).cell? p = some u ∨ p = ⟨P, 2, none⟩ := fun {p} {u} hp hc => by
            by_cases e : p = ⟨P, 2, none⟩
            · exact .inr e
            · exact .inl (by rw [World.cell?_setCell_other _ _ _ _ (fun q => e q.symm)]; exact (T8.out.far hg hp).trans (keep_alloc hc))
          have p2 := (hfar (show PA < P + 1 from hPA.out) p2).resolve_right (fun e => by injection e with e _; have := hPA2.out; omega)
          have c1 := (hfar (show b < P + 1 from hbP.out) c1).resolve_right (fun e => by injection e with e _; have := hbP2.out; omega)
          have c2 := (hfar (show b < P + 1 from hbP.out) c2).resolve_right (fun e => by injection e with e _; have := hbP2.out; omega)
          have q2 := (T8.out.there hg).1
          have qf := (T8.out.there hg).2
          have T8 := Lib.hid (T8.out.put r1 hg)
          clear hfar r1 hg M8 HPS HT v1
          go_upto_region 9 with fail
          clear q2 qf
          obtain ⟨q0, q1, q2, qf⟩ : (w8.setCell ⟨P, 2, none⟩ (.slice a' n' c')).cell? ⟨P, 0, none⟩ = some (.int .i64 no) ∧ (w8.setCell ⟨P, 2, none⟩ (.slice a' n' c')).cell? ⟨P, 1, none⟩ = some (.int .i64 g) ∧ (w8.setCell ⟨P, 2, none⟩ (.slice a' n' c')).cell? ⟨P, 2, none⟩ = some (.slice a' n' c') ∧ ∀ i, (w8.setCell ⟨P, 2, none⟩ (.slice a' n' c')).frozen? ⟨P, i, none⟩ = false := ⟨T8.out.p0, T8.out.p1, T8.out.p2, T8.out.pf⟩
          generalize w8.setCell ⟨P, 2, none⟩ (.slice a' n' c') = wb at *
          by_cases e : x = key
          · subst e
            rw [if_pos rfl] at HL
            have HL9 : Hid ((O ++ [(x, s)]) ++ putT x s (l.drop (k + 1)) true = L) := by rw [Hid, ← HL.out]; simp []
            clear HL
            go_wp2
            go_roundw
            case rel => exact ⟨k + 1, true, (O ++ [(x, s)]), _, by omega, by go_num, rfl, by (first | omega | (simp only [List.length_append, List.length_cons, List.length_nil]; omega)), HL9, T8⟩
            case measure => simp [intOf]; omega
          · have f1 := ba_neL e
            have f2 := ba_neL' e
            rw [if_neg e] at HL
            have HL9 : Hid (((O ++ [(key, s)]) ++ [(x, y)]) ++ putT key s (l.drop (k + 1)) true = L) := by rw [Hid, ← HL.out]; simp []
            clear HL e
            have hyz : Below wb.heap.size wb (wb.alloc (.cells #[.string x, .string y] 39)).drew := ((Below.refl _ _).alloc (Nat.le_refl _) _).drew
            have T7 := Lib.hid (T8.out.below hyz)
            have HPZ : Hid (P + 1 ≤ (wb.alloc (.cells #[.string x, .string y] 39)).drew.heap.size) := block_lt T7.out.p0
            have MZ : Hid (∀ j u, (clsC [(x, y)])[j]? = some u → (wb.alloc (.cells #[.string x, .string y] 39)).drew.cell? ((⟨wb.heap.size, 0, none⟩ : Addr).add j) = some u) := fun j u hj => by
              match j, hj with
              | 0, hj => exact (new_cell rfl rfl).trans hj
              | 1, hj => exact (new_cell rfl rfl).trans hj
            clear hyz
            have qy := keep_alloc (o := .cells #[.string x, .string y] 39) q2
            go_upto_region 10 with fail
            go_region_law ((refine step_append_cls (by rfl) _ _ (by rfl) (P + 1) (.slice a' n' c') (O ++ [(key, s)]) ⟨wb.heap.size, 0, none⟩ [(x, y)] 1 (by rfl) T7.out.row (by rfl) MZ.out (by simp only [List.length_append, List.length_cons, List.length_nil]; omega) (by simp) HPZ.out ?_; intro v9 w9 r9 hg9; obtain ⟨a9, c9, rfl, _⟩ := r9.cls; generalize hn9 : ((O ++ [(key, s)]) ++ [(x, y)]).length = n9 at r9 ⊢; clear hn9; have qz := (T7.out.there hg9).1; have qf := (T7.out.there hg9).2; have T9 := Lib.hid (T7.out.put r9 hg9); clear r9 hg9 T7 MZ HPZ))
            all_goals go_wp2
            all_goals
              go_roundw
              case rel => exact ⟨k + 1, true, (O ++ [(key, s)]) ++ [(x, y)], _, by omega, by go_num, rfl, by (first | omega | (simp only [List.length_append, List.length_cons, List.length_nil]; omega)), HL9, T9⟩
              case measure => simp [intOf]; omega
    · have hk1 : (l.length : Int) ≤ (k : Int) := by omega
      have hdr : l.drop k = [] := List.drop_eq_nil_of_le (by omega)
      rw [hdr] at HL
      clear hdr EA hbw
      cases d with
      | true =>
        have HL9 : O = L := by rw [← HL.out]; show O = O ++ []; rw [List.append_nil]
        subst HL9
        clear HL v1
        obtain ⟨⟨r0, r1, r2, rf, bw⟩, p0, p1, p2, pf, row, hP⟩ := HT.out
        have ROW := Lib.hid row
        obtain ⟨a', c', rfl, _⟩ := row.cls
        have hP' := Lib.hid hP
        clear row hP HT
        go_wp2
        obtain ⟨X, hX, x0, x1, x2, hbX, hgX⟩ := set3 (v0 := .int .i64 no) (v1 := .int .i64 g) (v2 := .slice a' O.length c') bw (Nat.le_refl _) r0 r1 r2
        rw [← hX]
        have RX : RowC X (P + 1) (.slice a' O.length c') O := World.ownsRow.kept ROW.out hgX (by
          cases ho : (Value.slice a' O.length c').ownBlock with
          | none => exact .inl rfl
          | some k => exact .inr (fun e => by
              injection e with e
              have := (ROW.out.lt k ho).1
              have := hP'.out
              omega))
        refine bodyPost_ret (v := .agg #[.int .i64 no, .int .i64 g, .slice a' O.length c']) ?_ rfl ⟨a', c', rfl, RX.base (by have := hPA2.out; have := HPA.out; omega), by rw [HPA.out]; exact HB0.out.trans (hbX.mono (by have := hPA2.out; have := HS1.out; omega))⟩
        simp [results, Tryz.results26, go_sem, x0, x1, x2]
      | false =>
        have HL9 : Hid (O ++ [(key, s)] = L) := by rw [Hid, ← HL.out]; rfl
        clear HL
        have hy0 : Below wa.heap.size wa (wa.alloc (.cells #[.string key, .string s] 39)) := (Below.refl _ _).alloc (Nat.le_refl _) _
        have T8 := Lib.hid (HT.out.below hy0)
        have HPS : Hid (P + 1 ≤ (wa.alloc (.cells #[.string key, .string s] 39)).heap.size) := block_lt T8.out.p0
        have M8 : Hid (ClsAt (wa.alloc (.cells #[.string key, .string s] 39)) (some ⟨wa.heap.size, 0, none⟩) [(key, s)]) := .inr ⟨wa.heap.size, 0, rfl, fun i hi => by
          match i, hi with
          | 0, _ => exact ⟨new_cell rfl rfl, new_cell rfl rfl⟩⟩
        have q2 := HT.out.p2
        clear hy0
        go_wp2_with (at_builtin; refine append_cls rfl _ _ rfl (P + 1) v O (some ⟨wa.heap.size, 0, none⟩) [(key, s)] 1 rfl T8.out.row rfl M8.out (fun e => by cases e) hO9 (by simp) HPS.out ?_)
        intro v' w8 row hg
        rw [HL9.out] at row
        have q2 := (T8.out.there hg).1
        have qf := (T8.out.there hg).2
        have T9 := Lib.hid (T8.out.put (l' := L) row hg)
        obtain ⟨a', c', rfl, _⟩ := row.cls
        clear row hg M8 HPS HT v1 T8
        go_upto_region 13 with fail
        clear q2 qf
        obtain ⟨⟨r0, r1, r2, rf, bw⟩, p0, p1, p2, pf, row, hP⟩ := T9.out
        have ROW := Lib.hid row
        have hP' := Lib.hid hP
        clear row hP T9
        generalize w8.setCell ⟨P, 2, none⟩ (.slice a' L.length c') = wb at *
        go_wp2
        obtain ⟨X, hX, x0, x1, x2, hbX, hgX⟩ := set3 (v0 := .int .i64 no) (v1 := .int .i64 g) (v2 := .slice a' L.length c') bw (Nat.le_refl _) r0 r1 r2
        rw [← hX]
        have RX : RowC X (P + 1) (.slice a' L.length c') L := World.ownsRow.kept ROW.out hgX (by
          cases ho : (Value.slice a' L.length c').ownBlock with
          | none => exact .inl rfl
          | some k => exact .inr (fun e => by
              injection e with e
              have := (ROW.out.lt k ho).1
              have := hP'.out
              omega))
        refine bodyPost_ret (v := .agg #[.int .i64 no, .int .i64 g, .slice a' L.length c']) ?_ rfl ⟨a', c', rfl, RX.base (by have := hPA2.out; have := HPA.out; omega), by rw [HPA.out]; exact HB0.out.trans (hbX.mono (by have := hPA2.out; have := HS1.out; omega))⟩
        simp [results, Tryz.results26, go_sem, x0, x1, x2]
theorem refVal_any (h : Bool) (s : ByteArray) (w : World) : Calls Tryz.prog 25 #[.agg #[.bool h, .string s]] w fun e w' => e = .returned (.bool (vlOk h s)) ∧ Below w.heap.size w w' := by
  have hb0 : Below w.heap.size w (w.alloc (.cells #[.bool h, .string s] 23)) := (Below.refl _ _).alloc (Nat.le_refl _) _
  cases h with
  | true =>
    by_cases h16 : s.size ≤ 16
    · have HX : Hid (vlOk true s = true) := by rw [Hid, vl_true]; exact decide_eq_true h16
      have h16 : (s.size : Int) ≤ 16 := by omega
      go_enter Tryz.func25, Tryz.ntmps25
      go_wp2
      go_ret
      exact ⟨ret_bool HX.out.symm, hb0⟩
    · have HX : Hid (vlOk true s = false) := by rw [Hid, vl_true]; exact decide_eq_false h16
      have h16 : (16 : Int) < (s.size : Int) := by omega
      go_enter Tryz.func25, Tryz.ntmps25
      go_wp2
      go_ret
      exact ⟨ret_bool HX.out.symm, hb0⟩
  | false =>
    by_cases he : s = ⟨#[]⟩
    · have HX : Hid (vlOk false s = true) := by
        rw [Hid, he]
        unfold vlOk
        rw [ByteArray.toList_eq]; rfl
      subst he
      go_enter Tryz.func25, Tryz.ntmps25
      go_wp2
      go_ret
      exact ⟨ret_bool HX.out.symm, hb0⟩
    · have HX : Hid (vlOk false s = false) := by
        rw [Hid]
        cases q : vlOk false s
        · rfl
        · exact absurd (vl_false q) he
      have f1 := ba_neL he
      have f2 := ba_neL' he
      have hie : s.toList.isEmpty = false := by
        cases q : s.toList with
        | nil => exact absurd (by rw [q, ByteArray.toList_eq]) f2
        | cons _ _ => rfl
      clear he
      by_cases h16 : s.size ≤ 16
      · have h16 : (s.size : Int) ≤ 16 := by omega
        have HI := Lib.hid hie
        clear hie
        go_enter Tryz.func25, Tryz.ntmps25
        go_wp2
        go_ret
        exact ⟨ret_bool (HI.out.trans HX.out.symm), hb0⟩
      · have h16 : (16 : Int) < (s.size : Int) := by omega
        go_enter Tryz.func25, Tryz.ntmps25
        go_wp2
        go_ret
        exact ⟨ret_bool HX.out.symm, hb0⟩
section
variable (no gsn : Int) (a : Option Addr) (l : List (ByteArray × ByteArray)) (c : Nat) (key : ByteArray) (h : Bool) (s : ByteArray) (g : Int) (w : World)
set_option maxRecDepth 100000 in
set_option maxHeartbeats 4000000 in
theorem refSet_bad (hn : l.length ≤ 1000000) (ha : ClsAt w a l) (hbad : pgOk no gsn l = false ∨ kyOk key = false ∨ vlOk h s = false ∨ g ≤ gsn ∨ 4611686018427387903 < g) :
    Calls Tryz.prog 5 #[.agg #[.int .i64 no, .int .i64 gsn, .slice a l.length c], .string key, .agg #[.bool h, .string s], .int .i64 g] w (SetNo w 1) := by
  have G0 := setIn_ok w no gsn a l.length c h s
  have KG := Lib.hid (refGet_any no gsn a l c key _ hn (ha.below G0.bw))
  have KR := Lib.hid (fun W (hb : Below w.heap.size w W) => refRight_any no gsn a l c W (by unfold maxLen; omega) (ha.below hb))
  have KK := Lib.hid (fun W => refKey_any key W)
  have KV := Lib.hid (fun W => refVal_any h s W)
  have HS0 := Lib.hid G0
  clear ha G0
  generalize (clGet l key).1 = x1 at *
  generalize (clGet l key).2 = x2 at *
  have hfd : ∀ W : World, (Instr.field 23 (.agg #[.bool x1, .string x2]) 0).run Tryz.prog W = .ok (.bool x1) W := fun _ => by kernel_rfl
  have hq : pgOk no gsn l = false ∨ (pgOk no gsn l = true ∧ kyOk key = false) ∨ (pgOk no gsn l = true ∧ kyOk key = true ∧ vlOk h s = false) ∨ (pgOk no gsn l = true ∧ kyOk key = true ∧ vlOk h s = true ∧ g ≤ gsn) ∨ (pgOk no gsn l = true ∧ kyOk key = true ∧ vlOk h s = true ∧ gsn < g ∧ 4611686018427387904 ≤ g) := by
    cases q1 : pgOk no gsn l
    · exact .inl rfl
    · cases q2 : kyOk key
      · exact .inr (.inl ⟨rfl, rfl⟩)
      · cases q3 : vlOk h s
        · exact .inr (.inr (.inl ⟨rfl, rfl, rfl⟩))
        · by_cases q4 : g ≤ gsn
          · exact .inr (.inr (.inr (.inl ⟨rfl, rfl, rfl, q4⟩)))
          · refine .inr (.inr (.inr (.inr ⟨rfl, rfl, rfl, by omega, ?_⟩)))
            rcases hbad with x | x | x | x | x
            · rw [q1] at x; cases x
            · rw [q2] at x; cases x
            · rw [q3] at x; cases x
            · exact absurd x q4
            · omega
  clear hbad
  rcases hq with q1 | ⟨q1, q2⟩ | ⟨q1, q2, q3⟩ | ⟨q1, q2, q3, q4⟩ | ⟨q1, q2, q3, q4, q5⟩
  all_goals
    rw [q1] at KR
    try rw [q2] at KK
    try rw [q3] at KV
    clear q1
    try clear q2
    try clear q3
    go_enter Tryz.func5, Tryz.ntmps5
    go_wp2_with fail
    refine KG.out.mono ?_
    rintro e w5 ⟨rfl, hb5⟩
    have S5 := HS0.out.below hb5
    clear hb5 KG
    have p0 := S5.p0
    have p1 := S5.p1
    have p2 := S5.p2
    have K2 := Lib.hid (KR.out _ S5.bw)
    have HS5 := Lib.hid S5
    clear S5 KR
    go_wp2_with fail
    refine K2.out.mono ?_
    rintro e w6 ⟨rfl, hb6⟩
    have S6 := HS5.out.below hb6
    clear hb6 K2 HS5 p0 p1 p2
    obtain ⟨p0, p1, p2, v0, v1, r0, r1, r2, rf, bw⟩ := S6
    have HS6 : Hid (SetW w w6 no gsn a l.length c h s) := ⟨p0, p1, p2, v0, v1, r0, r1, r2, rf, bw⟩
    clear r0 r1 r2 rf bw
  · clear p0 p1 p2 v0 v1
    obtain ⟨p0, p1, p2, v0, v1, r0, r1, r2, rf, bw⟩ := HS6.out
    go_wp2
    obtain ⟨X, hX, y0, y1, y2, hbX, _⟩ := set3 (v0 := .int .i64 0) (v1 := .int .i64 0) (v2 := .slice none 0 0) bw (by omega) r0 r1 r2
    rw [← hX]
    refine bodyPost_ret (v := .tuple #[.agg #[.int .i64 0, .int .i64 0, .slice none 0 0], .int .i64 1]) ?_ rfl ⟨rfl, hbX⟩
    simp [results, Tryz.results5, go_sem, y0, y1, y2]
  · go_wp2_with fail
    refine (KK.out _).mono ?_
    rintro e w7 ⟨rfl, rfl⟩
    clear p0 p1 p2 v0 v1
    obtain ⟨p0, p1, p2, v0, v1, r0, r1, r2, rf, bw⟩ := HS6.out
    go_wp2
    obtain ⟨X, hX, y0, y1, y2, hbX, _⟩ := set3 (v0 := .int .i64 0) (v1 := .int .i64 0) (v2 := .slice none 0 0) bw (by omega) r0 r1 r2
    rw [← hX]
    refine bodyPost_ret (v := .tuple #[.agg #[.int .i64 0, .int .i64 0, .slice none 0 0], .int .i64 1]) ?_ rfl ⟨rfl, hbX⟩
    simp [results, Tryz.results5, go_sem, y0, y1, y2]
  · go_wp2_with fail
    refine (KK.out _).mono ?_
    rintro e w7 ⟨rfl, rfl⟩
    go_wp2_with fail
    refine (KV.out _).mono ?_
    rintro e w8 ⟨rfl, hb8⟩
    have S8 := HS6.out.below hb8
    clear hb8
    clear p0 p1 p2 v0 v1
    obtain ⟨p0, p1, p2, v0, v1, r0, r1, r2, rf, bw⟩ := S8
    go_wp2
    obtain ⟨X, hX, y0, y1, y2, hbX, _⟩ := set3 (v0 := .int .i64 0) (v1 := .int .i64 0) (v2 := .slice none 0 0) bw (by omega) r0 r1 r2
    rw [← hX]
    refine bodyPost_ret (v := .tuple #[.agg #[.int .i64 0, .int .i64 0, .slice none 0 0], .int .i64 1]) ?_ rfl ⟨rfl, hbX⟩
    simp [results, Tryz.results5, go_sem, y0, y1, y2]
  · go_wp2_with fail
    refine (KK.out _).mono ?_
    rintro e w7 ⟨rfl, rfl⟩
    go_wp2_with fail
    refine (KV.out _).mono ?_
    rintro e w8 ⟨rfl, hb8⟩
    have S8 := HS6.out.below hb8
    clear hb8
    clear p0 p1 p2 v0 v1
    obtain ⟨p0, p1, p2, v0, v1, r0, r1, r2, rf, bw⟩ := S8
    go_wp2
    obtain ⟨X, hX, y0, y1, y2, hbX, _⟩ := set3 (v0 := .int .i64 0) (v1 := .int .i64 0) (v2 := .slice none 0 0) bw (by omega) r0 r1 r2
    rw [← hX]
    refine bodyPost_ret (v := .tuple #[.agg #[.int .i64 0, .int .i64 0, .slice none 0 0], .int .i64 1]) ?_ rfl ⟨rfl, hbX⟩
    simp [results, Tryz.results5, go_sem, y0, y1, y2]
  · go_wp2_with fail
    refine (KK.out _).mono ?_
    rintro e w7 ⟨rfl, rfl⟩
    go_wp2_with fail
    refine (KV.out _).mono ?_
    rintro e w8 ⟨rfl, hb8⟩
    have S8 := HS6.out.below hb8
    clear hb8
    clear p0 p1 p2 v0 v1
    obtain ⟨p0, p1, p2, v0, v1, r0, r1, r2, rf, bw⟩ := S8
    go_wp2
    obtain ⟨X, hX, y0, y1, y2, hbX, _⟩ := set3 (v0 := .int .i64 0) (v1 := .int .i64 0) (v2 := .slice none 0 0) bw (by omega) r0 r1 r2
    rw [← hX]
    refine bodyPost_ret (v := .tuple #[.agg #[.int .i64 0, .int .i64 0, .slice none 0 0], .int .i64 1]) ?_ rfl ⟨rfl, hbX⟩
    simp [results, Tryz.results5, go_sem, y0, y1, y2]
set_option maxRecDepth 100000 in
set_option maxHeartbeats 4000000 in
theorem refSet_good (hn : l.length ≤ 8) (hu : UpL l) (ha : ClsAt w a l) (q1 : pgOk no gsn l = true) (q2 : kyOk key = true) (q3 : vlOk h s = true) (hg : gsn < g) (hg2 : g < 4611686018427387904) (hno : ¬ (pgOk no gsn l = false ∨ kyOk key = false ∨ vlOk h s = false ∨ g ≤ gsn ∨ 4611686018427387903 < g)) :
    Calls Tryz.prog 5 #[.agg #[.int .i64 no, .int .i64 gsn, .slice a l.length c], .string key, .agg #[.bool h, .string s], .int .i64 g] w (SetAns no gsn l key h s g w) := by
  have G0 := setIn_ok w no gsn a l.length c h s
  have KG := Lib.hid (refGet_any no gsn a l c key _ (by omega) (ha.below G0.bw))
  have KR := Lib.hid (fun W (hb : Below w.heap.size w W) => refRight_any no gsn a l c W (by unfold maxLen; omega) (ha.below hb))
  have KK := Lib.hid (fun W => refKey_any key W)
  have KV := Lib.hid (fun W => refVal_any h s W)
  have KP := Lib.hid (fun W (hb : Below w.heap.size w W) => refPut_any no gsn a l c key h s g W hn hu (ha.below hb))
  have HS0 := Lib.hid G0
  clear ha G0 hu
  rw [q1] at KR
  rw [q2] at KK
  rw [q3] at KV
  have HN9 := Lib.hid hno
  have hcase : (h = false ∧ (clGet l key).1 = false) ∨ (h = true ∧ (clGet l key).1 = false ∧ l.length = 8) ∨ (h = false ∧ (clGet l key).1 = true) ∨ (h = true ∧ (clGet l key).1 = true) ∨ (h = true ∧ (clGet l key).1 = false ∧ l.length ≠ 8) := by
    cases h <;> cases (clGet l key).1 <;> simp
    omega
  have HEQ : Hid (setE no gsn l key h s g = if h = false ∧ (clGet l key).1 = false then 7 else if h = true ∧ (clGet l key).1 = false ∧ l.length = 8 then 4 else 0) := by
    show setE no gsn l key h s g = _
    unfold setE
    rw [if_neg hno]
  clear hno q1 q2 q3
  generalize (clGet l key).1 = x1 at *
  generalize (clGet l key).2 = x2 at *
  have hfd : ∀ W : World, (Instr.field 23 (.agg #[.bool x1, .string x2]) 0).run Tryz.prog W = .ok (.bool x1) W := fun _ => by kernel_rfl
  rcases hcase with ⟨rfl, rfl⟩ | ⟨rfl, rfl, h8⟩ | ⟨rfl, rfl⟩ | ⟨rfl, rfl⟩ | ⟨rfl, rfl, h8⟩
  all_goals
    try have H8 := Lib.hid h8
    try clear h8
    go_enter Tryz.func5, Tryz.ntmps5
    go_wp2_with fail
    refine KG.out.mono ?_
    rintro e w5 ⟨rfl, hb5⟩
    have S5 := HS0.out.below hb5
    clear hb5 KG
    have p0 := S5.p0
    have p1 := S5.p1
    have p2 := S5.p2
    have K2 := Lib.hid (KR.out _ S5.bw)
    have HS5 := Lib.hid S5
    clear S5 KR
    go_wp2_with fail
    refine K2.out.mono ?_
    rintro e w6 ⟨rfl, hb6⟩
    have S6 := HS5.out.below hb6
    clear hb6 K2 HS5 p0 p1 p2
    obtain ⟨p0, p1, p2, v0, v1, r0, r1, r2, rf, bw⟩ := S6
    have HS6 : Hid (SetW w w6 no gsn a l.length c _ s) := ⟨p0, p1, p2, v0, v1, r0, r1, r2, rf, bw⟩
    clear r0 r1 r2 rf bw
    go_wp2_with fail
    refine (KK.out _).mono ?_
    rintro e w7 ⟨rfl, rfl⟩
    go_wp2_with fail
    refine (KV.out _).mono ?_
    rintro e w8 ⟨rfl, hb8⟩
    have S8 := HS6.out.below hb8
    clear hb8
    clear p0 p1 p2 v0 v1
  · have hez : setE no gsn l key false s g = 7 := by rw [HEQ.out]; simp
    have HEZ := Lib.hid hez
    clear hez HEQ KP
    obtain ⟨p0, p1, p2, v0, v1, r0, r1, r2, rf, bw⟩ := S8
    go_wp2
    obtain ⟨X, hX, y0, y1, y2, hbX, _⟩ := set3 (v0 := .int .i64 0) (v1 := .int .i64 0) (v2 := .slice none 0 0) bw (by omega) r0 r1 r2
    rw [← hX]
    refine bodyPost_ret (v := .tuple #[.agg #[.int .i64 0, .int .i64 0, .slice none 0 0], .int .i64 7]) ?_ rfl (.inl ⟨by rw [HEZ.out]; decide, by rw [HEZ.out], hbX⟩)
    simp [results, Tryz.results5, go_sem, y0, y1, y2]
  · have h8 := H8.out
    have hez : setE no gsn l key true s g = 4 := by rw [HEQ.out]; simp [h8]
    have HEZ := Lib.hid hez
    rw [h8] at S8 ⊢
    clear h8
    clear hez HEQ KP
    obtain ⟨p0, p1, p2, v0, v1, r0, r1, r2, rf, bw⟩ := S8
    go_wp2
    obtain ⟨X, hX, y0, y1, y2, hbX, _⟩ := set3 (v0 := .int .i64 0) (v1 := .int .i64 0) (v2 := .slice none 0 0) bw (by omega) r0 r1 r2
    rw [← hX]
    refine bodyPost_ret (v := .tuple #[.agg #[.int .i64 0, .int .i64 0, .slice none 0 0], .int .i64 4]) ?_ rfl (.inl ⟨by rw [HEZ.out]; decide, by rw [HEZ.out], hbX⟩)
    simp [results, Tryz.results5, go_sem, y0, y1, y2]
  · obtain ⟨p0, p1, p2, v0, v1, r0, r1, r2, rf, bw⟩ := S8
    have hez : setE no gsn l key false s g = 0 := by rw [HEQ.out]; simp
    have K9 := Lib.hid (KP.out w8 bw)
    have HBW := Lib.hid bw
    have HSW : Hid (SetW w w8 no gsn a l.length c false s) := ⟨p0, p1, p2, v0, v1, r0, r1, r2, rf, bw⟩
    have HEZ := Lib.hid hez
    have h88 : (l.length : Int) ≤ 8 := by omega
    clear KP r0 r1 r2 rf bw hez HEQ
    go_wp2_with fail
    refine K9.out.mono ?_
    rintro e w9 ⟨av, cv, rfl, hr, hb9⟩
    have S9 := HSW.out.below hb9
    have HR := Lib.hid hr
    have hlt : w.heap.size + 1 + 1 < w8.heap.size := block_lt HSW.out.r0
    have HLT := Lib.hid hlt
    clear hr hlt hb9 K9 HSW p0 p1 p2 v0 v1
    obtain ⟨p0, p1, p2, v0, v1, r0, r1, r2, rf, bw⟩ := S9
    go_wp2
    obtain ⟨X, hX, y0, y1, y2, hbX, hgX⟩ := set3 (v0 := .int .i64 no) (v1 := .int .i64 g) (v2 := .slice av (ptL l key false s).length cv) bw (by omega) r0 r1 r2
    rw [← hX]
    refine bodyPost_ret (v := .tuple #[.agg #[.int .i64 no, .int .i64 g, .slice av (ptL l key false s).length cv], .int .i64 0]) ?_ rfl (.inr ⟨HEZ.out, av, cv, rfl, (HR.out.fr hgX HLT.out).base (by have := HLT.out; omega), hbX⟩)
    simp [results, Tryz.results5, go_sem, y0, y1, y2]
  · obtain ⟨p0, p1, p2, v0, v1, r0, r1, r2, rf, bw⟩ := S8
    have hez : setE no gsn l key true s g = 0 := by rw [HEQ.out]; simp
    have K9 := Lib.hid (KP.out w8 bw)
    have HBW := Lib.hid bw
    have HSW : Hid (SetW w w8 no gsn a l.length c true s) := ⟨p0, p1, p2, v0, v1, r0, r1, r2, rf, bw⟩
    have HEZ := Lib.hid hez
    have h88 : (l.length : Int) ≤ 8 := by omega
    clear KP r0 r1 r2 rf bw hez HEQ
    go_wp2_with fail
    refine K9.out.mono ?_
    rintro e w9 ⟨av, cv, rfl, hr, hb9⟩
    have S9 := HSW.out.below hb9
    have HR := Lib.hid hr
    have hlt : w.heap.size + 1 + 1 < w8.heap.size := block_lt HSW.out.r0
    have HLT := Lib.hid hlt
    clear hr hlt hb9 K9 HSW p0 p1 p2 v0 v1
    obtain ⟨p0, p1, p2, v0, v1, r0, r1, r2, rf, bw⟩ := S9
    go_wp2
    obtain ⟨X, hX, y0, y1, y2, hbX, hgX⟩ := set3 (v0 := .int .i64 no) (v1 := .int .i64 g) (v2 := .slice av (ptL l key true s).length cv) bw (by omega) r0 r1 r2
    rw [← hX]
    refine bodyPost_ret (v := .tuple #[.agg #[.int .i64 no, .int .i64 g, .slice av (ptL l key true s).length cv], .int .i64 0]) ?_ rfl (.inr ⟨HEZ.out, av, cv, rfl, (HR.out.fr hgX HLT.out).base (by have := HLT.out; omega), hbX⟩)
    simp [results, Tryz.results5, go_sem, y0, y1, y2]
  · have h8 := H8.out
    have h8i : ¬ (l.length : Int) = 8 := by omega
    have h8b : ((l.length : Int) == 8) = false := by rw [beq_eq_false_iff_ne]; exact h8i
    obtain ⟨p0, p1, p2, v0, v1, r0, r1, r2, rf, bw⟩ := S8
    have hez : setE no gsn l key true s g = 0 := by rw [HEQ.out]; simp [h8]
    have K9 := Lib.hid (KP.out w8 bw)
    have HBW := Lib.hid bw
    have HSW : Hid (SetW w w8 no gsn a l.length c true s) := ⟨p0, p1, p2, v0, v1, r0, r1, r2, rf, bw⟩
    have HEZ := Lib.hid hez
    have h88 : (l.length : Int) ≤ 8 := by omega
    clear KP r0 r1 r2 rf bw hez HEQ
    go_wp2_with fail
    refine K9.out.mono ?_
    rintro e w9 ⟨av, cv, rfl, hr, hb9⟩
    have S9 := HSW.out.below hb9
    have HR := Lib.hid hr
    have hlt : w.heap.size + 1 + 1 < w8.heap.size := block_lt HSW.out.r0
    have HLT := Lib.hid hlt
    clear hr hlt hb9 K9 HSW p0 p1 p2 v0 v1
    obtain ⟨p0, p1, p2, v0, v1, r0, r1, r2, rf, bw⟩ := S9
    go_wp2
    obtain ⟨X, hX, y0, y1, y2, hbX, hgX⟩ := set3 (v0 := .int .i64 no) (v1 := .int .i64 g) (v2 := .slice av (ptL l key true s).length cv) bw (by omega) r0 r1 r2
    rw [← hX]
    refine bodyPost_ret (v := .tuple #[.agg #[.int .i64 no, .int .i64 g, .slice av (ptL l key true s).length cv], .int .i64 0]) ?_ rfl (.inr ⟨HEZ.out, av, cv, rfl, (HR.out.fr hgX HLT.out).base (by have := HLT.out; omega), hbX⟩)
    simp [results, Tryz.results5, go_sem, y0, y1, y2]
theorem refSet_any (hn : l.length ≤ 1000000) (ha : ClsAt w a l) :
    Calls Tryz.prog 5 #[.agg #[.int .i64 no, .int .i64 gsn, .slice a l.length c], .string key, .agg #[.bool h, .string s], .int .i64 g] w (SetAns no gsn l key h s g w) := by
  by_cases hb : pgOk no gsn l = false ∨ kyOk key = false ∨ vlOk h s = false ∨ g ≤ gsn ∨ 4611686018427387903 < g
  · have he := setE_bad (h := h) (s := s) hb
    refine (refSet_bad no gsn a l c key h s g w hn ha hb).mono ?_
    rintro e w' ⟨rfl, hb⟩
    exact .inl ⟨by rw [he]; decide, by rw [he], hb⟩
  · have h1 : pgOk no gsn l = true := by
      cases q : pgOk no gsn l
      · exact absurd (.inl q) hb
      · rfl
    have h2 : kyOk key = true := by
      cases q : kyOk key
      · exact absurd (.inr (.inl q)) hb
      · rfl
    have h3 : vlOk h s = true := by
      cases q : vlOk h s
      · exact absurd (.inr (.inr (.inl q))) hb
      · rfl
    have h4 : ¬ g ≤ gsn := fun q => hb (.inr (.inr (.inr (.inl q))))
    have h5 : ¬ 4611686018427387903 < g := fun q => hb (.inr (.inr (.inr (.inr q))))
    obtain ⟨hu, _⟩ := cellsB_parts (pgOk_parts h1).2.2.2.2.2
    exact refSet_good no gsn a l c key h s g w (pgOk_parts h1).2.2.2.2.1 hu ha h1 h2 h3 (by omega) (by omega) hb
end
end Go.Proofs.YtpkbopeddhgnlaaGreatDoor
