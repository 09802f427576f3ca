/-
  ROWS OF TIMES; THE CONTRACTS OF law 09's find AND with.
-/
import Derived.Test.YtcdkloohdafbpaaCkMost
import Derived.BigRegion
import Derived.Laws.AppendOwn
import Derived.Laws.OwnMore
import Derived.Lib.SmallJoins
namespace Go.Proofs.Ytcdkloohdafbpaa
open Go.RowKit
def flatT (l : List (Int × Int)) : List Value := l.flatMap fun x => [.int .i64 x.1, .int .i64 x.2]
theorem flatT_len (l : List (Int × Int)) : (flatT l).length = l.length * 2 := by
  unfold flatT
  induction l with
  | nil => rfl
  | cons x l ih => rw [List.flatMap_cons, List.length_append, ih]; simp; omega
theorem flatT_snoc (l : List (Int × Int)) (x : Int × Int) : flatT l ++ [.int .i64 x.1, .int .i64 x.2] = flatT (l ++ [x]) := by
  unfold flatT; rw [List.flatMap_append]; simp
def TmAt (w : World) (a : Option Addr) (l : List (Int × Int)) : Prop :=
  l = [] ∨ ∃ b off, a = some ⟨b, off, none⟩ ∧ ∀ i, i < l.length → w.cell? ⟨b, off + i * 2, none⟩ = some (.int .i64 (l.getD i (0, 0)).1) ∧ w.cell? ⟨b, off + i * 2 + 1, none⟩ = some (.int .i64 (l.getD i (0, 0)).2)
theorem keepC {w w' : World} {p : Addr} {v : Value} (h : Below w.heap.size w w') (hc : w.cell? p = some v) : w'.cell? p = some v := by
  have hlt : p.block < w.heap.size := by
    rcases Nat.lt_or_ge p.block w.heap.size with h1 | h1
    · exact h1
    · simp [World.cell?, Array.getElem?_eq_none h1] at hc
  exact (h.cell hlt).trans hc
theorem TmAt.below {w w' : World} {a : Option Addr} {l : List (Int × Int)} (h : TmAt w a l) (hb : Below w.heap.size w w') : TmAt w' a l := by
  rcases h with h | ⟨b, off, e, h⟩
  · exact .inl h
  · exact .inr ⟨b, off, e, fun i hi => ⟨keepC hb (h i hi).1, keepC hb (h i hi).2⟩⟩
theorem flatT_get (l : List (Int × Int)) : ∀ (i j : Nat), i < l.length → j < 2 → (flatT l)[i * 2 + j]? = ([.int .i64 (l.getD i (0, 0)).1, .int .i64 (l.getD i (0, 0)).2] : List Value)[j]? := by
  induction l with
  | nil => intro i j hi; simp at hi
  | cons f l ih =>
    intro i j hi hj
    have he : flatT (f :: l) = [.int .i64 f.1, .int .i64 f.2] ++ flatT l := by unfold flatT; rw [List.flatMap_cons]
    cases i with
    | zero => rw [he, Nat.zero_mul, Nat.zero_add, List.getElem?_append_left hj]; rfl
    | succ i =>
      rw [he, List.getElem?_append_right (by show 2 ≤ _; omega)]
      rw [show (i + 1) * 2 + j - ([.int .i64 f.1, .int .i64 f.2] : List Value).length = i * 2 + j from by show (i + 1) * 2 + j - 2 = _; omega]
      exact ih i j (by simpa using hi) hj
/-- A row of times, of the call's own (no block below B). -/
def RowT (W : World) (B : Nat) (v : Value) (l : List (Int × Int)) : Prop := W.ownsRow B 57 2 v l.length (flatT l)
theorem RowT.at {w : World} {B : Nat} {v : Value} {l : List (Int × Int)} (h : RowT w B v l) : ∃ a c, v = .slice a l.length c ∧ TmAt w a l := by
  rcases h.2 with ⟨hv, h0⟩ | ⟨g, c, cur, hv, _⟩
  · exact ⟨none, 0, by rw [hv, h0], .inl (List.length_eq_zero_iff.1 h0)⟩
  · subst hv
    refine ⟨_, c, rfl, .inr ⟨g, 0, rfl, fun i hi => ?_⟩⟩
    rw [Nat.zero_add]
    refine ⟨?_, ?_⟩
    · have := flatT_get l i 0 hi (by omega)
      rw [Nat.add_zero] at this
      rw [World.ownsRow.cellAt h (i * 2) (by omega), this]; rfl
    · rw [World.ownsRow.cellAt h (i * 2 + 1) (by omega), flatT_get l i 1 hi (by omega)]; rfl
theorem RowT.below {W W' : World} {B : Nat} {v : Value} {l : List (Int × Int)} (h : RowT W B v l) (hb : Below W.heap.size W W') : RowT W' B v l :=
  World.ownsRow.kept h (row := none) ⟨hb.os, hb.tape, hb.output, hb.size, fun k hk _ => hb.block k hk⟩ (by cases v.ownBlock with
    | none => exact .inl rfl
    | some k => exact .inr (fun e => by cases e))
theorem RowT.lower {W : World} {B B' : Nat} {v : Value} {l : List (Int × Int)} (h : RowT W B v l) (hb : B' ≤ B) : RowT W B' v l := Go.Joins.ownsRow_le h hb
theorem RowT.none (W : World) (B : Nat) : RowT W B (.slice none 0 0) [] := World.ownsRow_nil _ _ _ _
def findL : List (Int × Int) → Int → Int
  | [], _ => 0
  | x :: r, key => if x.1 = key then x.2 else findL r key

theorem drop_oneT (l : List (Int × Int)) (k : Nat) (h : k < l.length) : l.drop k = l.getD k (0, 0) :: l.drop (k + 1) := by
  rw [List.drop_eq_getElem_cons h]; simp [List.getD_eq_getElem?_getD, h]
theorem take_oneT (l : List (Int × Int)) (k : Nat) (h : k < l.length) : l.take (k + 1) = l.take k ++ [l.getD k (0, 0)] := by
  rw [List.take_succ_eq_append_getElem h]; simp [List.getD_eq_getElem?_getD, h]
theorem TmAt.cell {w : World} {a : Option Addr} {l : List (Int × Int)} (h : TmAt w a l) {k : Nat} (hk : k < l.length) : ∃ b off, a = some ⟨b, off, none⟩ ∧ w.cell? ⟨b, off + k * 2, none⟩ = some (.int .i64 (l.getD k (0, 0)).1) ∧ w.cell? ⟨b, off + k * 2 + 1, none⟩ = some (.int .i64 (l.getD k (0, 0)).2) := by
  rcases h with rfl | ⟨b, off, e, h⟩
  · simp at hk
  · exact ⟨b, off, e, h k hk⟩
set_option maxHeartbeats 1000000 in
theorem find_at (a : Option Addr) (l : List (Int × Int)) (cap : Nat) (key : Int) (w : World) (hl : l.length ≤ 1000) (ha : TmAt w a l) :
    Calls Try.prog 13 #[.slice a l.length cap, .int .i64 key] w fun e w' => e = .returned (.int .i64 (findL l key)) ∧ w = w' := by
  have HA := Lib.hid ha; clear ha
  have H0 : Hid (findL l key = findL (l.drop 0) key) := rfl
  go_enter Try.func13, Try.ntmps13
  go_wp2
  go_loop [5] (fun i => ∃ k : Nat, k ≤ l.length ∧ i = .int .i64 k ∧ Hid (findL l key = findL (l.drop k) key)) (fun i => l.length - (intOf i).toNat)
  case atStart => exact ⟨0, Nat.zero_le _, rfl, H0⟩
  case round =>
    obtain ⟨k, hk, rfl, hf⟩ := hrel
    by_cases hlt : k < l.length
    · obtain ⟨b, off, rfl, h0, h1⟩ := HA.out.cell hlt
      have HY : Hid ((l.getD k (0, 0)).1 = key → findL l key = (l.getD k (0, 0)).2) := fun e => by rw [hf.out, drop_oneT l k hlt]; unfold findL; rw [if_pos e]
      have HN : Hid (¬ (l.getD k (0, 0)).1 = key → findL l key = findL (l.drop (k + 1)) key) := fun e => by rw [hf.out, drop_oneT l k hlt]; conv => lhs; unfold findL; rw [if_neg e]
      clear hf
      generalize l.getD k (0, 0) = x at h0 h1 HY HN
      by_cases he : x.1 = key
      · have HR := Lib.hid (HY.out he)
        go_wp2
        go_ret
        exact ⟨ret_i64 HR.out.symm, rfl⟩
      · have HR := Lib.hid (HN.out he)
        have he : (x.1 == key) = false := by rw [beq_eq_false_iff_ne]; exact he
        go_wp2
        go_round
        case rel => exact ⟨k + 1, by omega, by go_num, HR⟩
        case measure => simp [intOf]; omega
    · have HR : Hid (findL l key = 0) := by rw [Hid, hf.out, List.drop_of_length_le (by omega)]; rfl
      go_wp2
      go_ret
      exact ⟨ret_i64 HR.out.symm, rfl⟩
theorem infoT : (Try.prog.info? 57).map (fun i => (i.zero, i.size, i.bytes)) = some (some (.agg #[.int .i64 0, .int .i64 0]), 2, 16) := by kernel_rfl
theorem info_partsT : ∃ i, Try.prog.info? 57 = some i ∧ i.zero = some (.agg #[.int .i64 0, .int .i64 0]) ∧ i.size = 2 ∧ i.bytes = 16 := by
  obtain ⟨i, hi, hzz⟩ := Option.map_eq_some_iff.1 infoT
  simp only [Prod.mk.injEq] at hzz
  exact ⟨i, hi, hzz.1, hzz.2.1, hzz.2.2⟩
def others (l : List (Int × Int)) (key : Int) : List (Int × Int) := l.filter fun x => !(x.1 == key)
def withL (l : List (Int × Int)) (key n : Int) : List (Int × Int) := if key < 0 then l else others l key ++ [(key, n)]
theorem others_same {l : List (Int × Int)} {k : Nat} {key : Int} (hlt : k < l.length) (e : (l.getD k (0, 0)).1 = key) : others (l.take (k + 1)) key = others (l.take k) key := by
  rw [take_oneT l k hlt]
  generalize l.getD k (0, 0) = x at e
  unfold others; rw [List.filter_append]; simp [e]
theorem others_more {l : List (Int × Int)} {k : Nat} {key : Int} (hlt : k < l.length) (e : ¬ (l.getD k (0, 0)).1 = key) : others (l.take (k + 1)) key = others (l.take k) key ++ [l.getD k (0, 0)] := by
  rw [take_oneT l k hlt]
  generalize l.getD k (0, 0) = x at e
  unfold others; rw [List.filter_append]; simp [e]
theorem with_neg (v : Value) (key n : Int) (w : World) (hk : key < 0) :
    Calls Try.prog 17 #[v, .int .i64 key, .int .i64 n] w fun e w' => e = .returned v ∧ w = w' := by
  go_enter Try.func17, Try.ntmps17
  go_wp2
  go_ret
  exact ⟨rfl, rfl⟩
set_option maxRecDepth 100000 in
set_option maxHeartbeats 2000000 in
theorem with_at (a : Option Addr) (l : List (Int × Int)) (cap : Nat) (key n : Int) (w : World) (hl : l.length ≤ 1000) (ha : TmAt w a l) (hk : ¬ key < 0) :
    Calls Try.prog 17 #[.slice a l.length cap, .int .i64 key, .int .i64 n] w fun e w' => ∃ v, e = .returned v ∧ RowT w' w.heap.size v (withL l key n) ∧ Below w.heap.size w w' := by
  have HA := Lib.hid ha; clear ha
  obtain ⟨i0, hi, hz0, hz1, hz2⟩ := info_partsT
  have hk0 : 0 ≤ key := by omega
  have HW : Hid (withL l key n = others l key ++ [(key, n)]) := by rw [Hid, withL, if_neg hk]
  go_enter Try.func17, Try.ntmps17
  go_wp2
  go_loopw [7, 8] (fun v i wr => ∃ k : Nat, k ≤ l.length ∧ i = .int .i64 k ∧ Hid (RowT wr w.heap.size v (others (l.take k) key)) ∧ Below w.heap.size w wr) (fun _ i _ => l.length - (intOf i).toNat)
  case atStart => exact ⟨0, Nat.zero_le _, rfl, RowT.none _ _, Below.refl _ _⟩
  case round =>
    obtain ⟨k, hkk, rfl, hown, hbr⟩ := hrel
    by_cases hlt : k < l.length
    · obtain ⟨b, off, rfl, h0, h1⟩ := HA.out.cell hlt
      have c0 := keepC hbr h0
      have c1 := keepC hbr h1
      have G1 := Lib.hid (take_oneT l k hlt)
      have hFl : (others (l.take k) key).length ≤ k := Nat.le_trans (List.length_filter_le _ _) (by rw [List.length_take]; omega)
      have GY := Lib.hid (fun e => others_same (key := key) hlt e)
      have GN := Lib.hid (fun e => others_more (key := key) hlt e)
      clear h0 h1
      generalize l.getD k (0, 0) = x at c0 c1 GY GN
      by_cases he : x.1 = key
      · have HG := Lib.hid (GY.out he)
        go_wp2
        go_roundw
        case rel => exact ⟨k + 1, by omega, by go_num, by rw [HG.out]; exact hown, hbr⟩
        case measure => simp [intOf]; omega
      · have HG := Lib.hid (GN.out he)
        have he : (x.1 == key) = false := by rw [beq_eq_false_iff_ne]; exact he
        have hown3 := hown.out
        unfold RowT at hown3
        obtain ⟨F, hF⟩ : ∃ F, F = others (l.take k) key := ⟨_, rfl⟩
        rw [← hF] at hown3 HG hFl
        have hsz := hbr.size
        have hlo := fun k hk => (hown3.lt k hk)
        clear hown hF
        go_wp2_with (at_builtin; refine wpList_append_own _ rfl _ _ 29 rfl w.heap.size 57 i0 (.agg #[.int .i64 0, .int .i64 0]) 2 16 Try.underlying29 hi hz0 hz1 hz2 rfl (by decide) _ _ _ rfl (hown3.alloc _) ⟨wr.heap.size, 0, none⟩ 1 1 [.int .i64 x.1, .int .i64 x.2] rfl rfl ?c1 ?c2 ?c3 ?c4 ?c5 ?_)
        case c1 =>
          intro j u hj
          match j, hj with
          | 0, hj => simp at hj; subst hj; simp [Addr.add, World.cell?_alloc_at]
          | 1, hj => simp at hj; subst hj; simp [Addr.add, World.cell?_alloc_at]
        case c2 => intro u hu; simp at hu; rcases hu with rfl | rfl <;> rfl
        case c3 => unfold maxLen; omega
        case c4 => omega
        case c5 => rw [World.size_alloc]; omega
        · intro v' w1 hown' hgrow _
          have hbn : Below w.heap.size w w1 := (hbr.alloc hsz _).grown hgrow (by rw [World.size_alloc]; omega) (fun k hk => (hlo k hk).1)
          have hl2 : F.length + 1 = (F ++ [x]).length := by simp
          have hrow : RowT w1 w.heap.size v' (F ++ [x]) := by unfold RowT; rw [← hl2, ← flatT_snoc]; exact hown'
          have HON := Lib.hid hrow
          clear hown' hgrow hown3 hl2 hlo hrow
          go_wp2
          go_roundw
          case rel => exact ⟨k + 1, by omega, by go_num, by rw [HG.out]; exact HON, hbn⟩
          case measure => simp [intOf]; omega
    · have hfull : l.take k = l := List.take_of_length_le (by omega)
      rw [hfull] at hown
      have hFl : (others l key).length ≤ 1000 := Nat.le_trans (List.length_filter_le _ _) hl
      have hown3 := hown.out
      unfold RowT at hown3
      obtain ⟨F, hF⟩ : ∃ F, F = others l key := ⟨_, rfl⟩
      rw [← hF] at hown3 HW hFl
      have hsz := hbr.size
      have hlo := fun k hk => (hown3.lt k hk)
      clear hown hF
      go_wp2_with (at_builtin; refine wpList_append_own _ rfl _ _ 29 rfl w.heap.size 57 i0 (.agg #[.int .i64 0, .int .i64 0]) 2 16 Try.underlying29 hi hz0 hz1 hz2 rfl (by decide) _ _ _ rfl (hown3.alloc _) ⟨wr.heap.size, 0, none⟩ 1 1 [.int .i64 key, .int .i64 n] rfl rfl ?c1 ?c2 ?c3 ?c4 ?c5 ?_)
      case c1 =>
        intro j u hj
        match j, hj with
        | 0, hj => simp at hj; subst hj; simp [Addr.add, World.cell?_alloc_at]
        | 1, hj => simp at hj; subst hj; simp [Addr.add, World.cell?_alloc_at]
      case c2 => intro u hu; simp at hu; rcases hu with rfl | rfl <;> rfl
      case c3 => unfold maxLen; omega
      case c4 => omega
      case c5 => rw [World.size_alloc]; omega
      · intro v' w1 hown' hgrow _
        have hbn : Below w.heap.size w w1 := (hbr.alloc hsz _).grown hgrow (by rw [World.size_alloc]; omega) (fun k hk => (hlo k hk).1)
        have hl2 : F.length + 1 = (F ++ [(key, n)]).length := by simp
        have hrow : RowT w1 w.heap.size v' (F ++ [(key, n)]) := by unfold RowT; rw [← hl2, ← flatT_snoc]; exact hown'
        have HON := Lib.hid hrow
        clear hown' hgrow hown3 hl2 hlo hrow
        go_wp2
        go_ret
        exact ⟨_, rfl, by rw [HW.out]; exact HON.out, hbn⟩
/-- find, with, of a row of the call's own. -/
theorem find_row {W : World} {B : Nat} {v : Value} {l : List (Int × Int)} (h : RowT W B v l) (hl : l.length ≤ 1000) (key : Int) :
    Calls Try.prog 13 #[v, .int .i64 key] W fun e w' => e = .returned (.int .i64 (findL l key)) ∧ W = w' := by
  obtain ⟨a, c, rfl, ha⟩ := h.at
  exact find_at a l c key W hl ha
theorem with_row {W : World} {B : Nat} {v : Value} {l : List (Int × Int)} (h : RowT W B v l) (hl : l.length ≤ 1000) (hB : B ≤ W.heap.size) (key n : Int) :
    Calls Try.prog 17 #[v, .int .i64 key, .int .i64 n] W fun e w' => ∃ v', e = .returned v' ∧ RowT w' B v' (withL l key n) ∧ Below W.heap.size W w' := by
  by_cases hk : key < 0
  · refine (with_neg v key n W hk).mono ?_
    rintro e w' ⟨rfl, rfl⟩
    exact ⟨v, rfl, by unfold withL; rw [if_pos hk]; exact h, Below.refl _ _⟩
  · obtain ⟨a, c, rfl, ha⟩ := h.at
    refine (with_at a l c key n W hl ha hk).mono ?_
    rintro e w' ⟨v', rfl, hr, hb⟩
    exact ⟨v', rfl, hr.lower hB, hb⟩

/-! ### what they say -/
theorem withL_len (l : List (Int × Int)) (key n : Int) : (withL l key n).length ≤ l.length + 1 := by
  unfold withL others; split
  · omega
  · rw [List.length_append]; have := List.length_filter_le (fun x : Int × Int => !(x.1 == key)) l; simp; omega
theorem findL_others (l : List (Int × Int)) (key k : Int) (r : List (Int × Int)) (hne : ¬ k = key) : findL (others l key ++ r) k = if l.any (fun x => x.1 == k) then findL l k else findL r k := by
  induction l with
  | nil => simp [others]
  | cons x l ih =>
    by_cases h1 : x.1 = key
    · have h2 : (x.1 == k) = false := by rw [beq_eq_false_iff_ne]; omega
      have h3 : others (x :: l) key = others l key := by unfold others; rw [List.filter_cons]; simp [h1]
      have h4 : findL (x :: l) k = findL l k := by unfold findL; rw [if_neg (by simpa using h2)]; cases l <;> rfl
      rw [h3, ih, h4, List.any_cons, h2, Bool.false_or]
    · have h3 : others (x :: l) key = x :: others l key := by unfold others; rw [List.filter_cons]; simp [h1]
      rw [h3, List.cons_append]
      by_cases h5 : x.1 = k
      · have h6 : (x.1 == k) = true := by rw [beq_iff_eq]; exact h5
        rw [List.any_cons, h6, Bool.true_or, if_pos rfl]
        unfold findL; rw [if_pos h5, if_pos h5]
      · have h6 : (x.1 == k) = false := by rw [beq_eq_false_iff_ne]; exact h5
        have h7 : ∀ r, findL (x :: r) k = findL r k := fun r => by conv => lhs; unfold findL; rw [if_neg h5]
        rw [List.any_cons, h6, Bool.false_or, h7, h7, ih]
theorem findL_others_same (l : List (Int × Int)) (key n : Int) : findL (others l key ++ [(key, n)]) key = n := by
  induction l with
  | nil => simp [others, findL]
  | cons x l ih =>
    by_cases h1 : x.1 = key
    · have h3 : others (x :: l) key = others l key := by unfold others; rw [List.filter_cons]; simp [h1]
      rw [h3, ih]
    · have h3 : others (x :: l) key = x :: others l key := by unfold others; rw [List.filter_cons]; simp [h1]
      rw [h3, List.cons_append]
      conv => lhs; unfold findL; rw [if_neg h1]
      exact ih
theorem findL_none (l : List (Int × Int)) (k : Int) (h : l.any (fun x => x.1 == k) = false) : findL l k = 0 := by
  induction l with
  | nil => rfl
  | cons x l ih =>
    rw [List.any_cons, Bool.or_eq_false_iff] at h
    have : ¬ x.1 = k := by simpa using h.1
    conv => lhs; unfold findL; rw [if_neg this]
    exact ih h.2
theorem findL_with (l : List (Int × Int)) (key n k : Int) : findL (withL l key n) k = if 0 ≤ key ∧ k = key then n else findL l k := by
  unfold withL
  by_cases h0 : key < 0
  · rw [if_pos h0, if_neg (by omega)]
  · rw [if_neg h0]
    by_cases h1 : k = key
    · subst h1; rw [if_pos ⟨by omega, rfl⟩, findL_others_same]
    · rw [if_neg (fun h => h1 h.2), findL_others l key k _ h1]
      cases h : l.any (fun x => x.1 == k) with
      | true => rfl
      | false =>
        rw [findL_none l k h]
        simp [findL]; omega
end Go.Proofs.Ytcdkloohdafbpaa
