/-
  A SET's BLOCKS AS ONE RISING LIST: where a number goes; what putting it into its block makes of the list. No program in sight.
-/
import Derived.Test.YtjpllcdjiagjlaaSetList
namespace Go.Proofs.Ytjpllcdjiagjlaa
open Go.RowKit

/-- A rising list with a number more (once). -/
def putS (l : List Int) (n : Int) : List Int := l.filter (· < n) ++ n :: l.filter (n < ·)

theorem countP_range (p : Nat → Bool) : ∀ m : Nat, (∀ a b, a ≤ b → b < m → p a = true → p b = true) →
    (∀ i, i < (List.range m).countP (fun i => !p i) → p i = false) ∧ (∀ i, (List.range m).countP (fun i => !p i) ≤ i → i < m → p i = true)
  | 0, _ => ⟨fun i h => by simp at h, fun i _ h => by omega⟩
  | m + 1, h => by
    have ih := countP_range p m (fun a b hab hb => h a b hab (by omega))
    have hc : (List.range m).countP (fun i => !p i) ≤ m := by
      have := List.countP_le_length (l := List.range m) (p := fun i => !p i)
      simpa using this
    rw [List.range_succ, List.countP_append]
    cases hp : p m
    · have e : [m].countP (fun i => !p i) = 1 := by simp [hp]
      rw [e]
      have hall : (List.range m).countP (fun i => !p i) = m := by
        rcases Nat.lt_or_ge ((List.range m).countP (fun i => !p i)) m with hlt | hge
        · have h1 := ih.2 _ (Nat.le_refl _) hlt
          have h2 := h _ m (by omega) (by omega) h1
          rw [hp] at h2; cases h2
        · omega
      rw [hall]
      refine ⟨fun i hi => ?_, fun i hi hl => by omega⟩
      by_cases e2 : i = m
      · rw [e2]; exact hp
      · exact ih.1 i (by rw [hall]; omega)
    · have e : [m].countP (fun i => !p i) = 0 := by simp [hp]
      rw [e, Nat.add_zero]
      refine ⟨ih.1, fun i hi hl => ?_⟩
      by_cases e2 : i = m
      · rw [e2]; exact hp
      · exact ih.2 i hi (by omega)

/-- Good blocks, as one list: rising; none empty; none too long. -/
structure Good (bl : List Blk) : Prop where
  rise : (flat bl).Pairwise (· < ·)
  ne : ∀ b ∈ bl, 0 < b.xs.length ∧ b.xs.length ≤ 256
  few : (flat bl).length ≤ 100000

theorem flat_cons (b : Blk) (l : List Blk) : flat (b :: l) = b.xs ++ flat l := rfl
theorem flat_app (a b : List Blk) : flat (a ++ b) = flat a ++ flat b := by simp [flat]
theorem flat_split (bl : List Blk) (p : Nat) (hp : p < bl.length) : flat bl = flat (bl.take p) ++ (bl.getD p noBlk).xs ++ flat (bl.drop (p + 1)) := by
  have h : bl = bl.take p ++ (bl.getD p noBlk) :: bl.drop (p + 1) := by
    rw [List.getD_eq_getElem?_getD, List.getElem?_eq_getElem hp]
    simp
  conv => lhs; rw [h]
  rw [flat_app, flat_cons, List.append_assoc]
theorem flat_set (bl : List Blk) (p : Nat) (hp : p < bl.length) (b' : Blk) : flat (bl.set p b') = flat (bl.take p) ++ b'.xs ++ flat (bl.drop (p + 1)) := by
  rw [List.set_eq_take_append_cons_drop, if_pos hp, flat_app, flat_cons, List.append_assoc]
theorem mem_flat {bl : List Blk} {b : Blk} {x : Int} (hb : b ∈ bl) (hx : x ∈ b.xs) : x ∈ flat bl := List.mem_flatMap.2 ⟨b, hb, hx⟩
theorem last_mem (b : Blk) (h : 0 < b.xs.length) : b.last ∈ b.xs := by
  unfold Blk.last
  rw [List.getD_eq_getElem?_getD, List.getElem?_eq_getElem (by omega)]
  exact List.getElem_mem _
theorem len_le_flat : ∀ (bl : List Blk), (∀ b ∈ bl, 0 < b.xs.length) → bl.length ≤ (flat bl).length
  | [], _ => by simp
  | b :: l, h => by
    have := len_le_flat l (fun c hc => h c (List.mem_cons_of_mem _ hc))
    have := h b List.mem_cons_self
    rw [flat_cons, List.length_append, List.length_cons]; omega
theorem sorted_last {l : List Int} (h : l.Pairwise (· < ·)) {x : Int} (hx : x ∈ l) : x ≤ l.getD (l.length - 1) 0 := by
  obtain ⟨i, hi, rfl⟩ := List.getElem_of_mem hx
  rw [List.getD_eq_getElem?_getD, List.getElem?_eq_getElem (by omega), Option.getD_some]
  by_cases e : i = l.length - 1
  · subst e; exact Int.le_refl _
  · exact Int.le_of_lt (List.pairwise_iff_getElem.1 h i (l.length - 1) hi (by omega) (by omega))

theorem Good.parts {bl : List Blk} (h : Good bl) {p : Nat} (hp : p < bl.length) : (bl.getD p noBlk).xs.Pairwise (· < ·) ∧
    (∀ x ∈ flat (bl.take p), ∀ y ∈ (bl.getD p noBlk).xs, x < y) ∧ (∀ x ∈ (bl.getD p noBlk).xs, ∀ y ∈ flat (bl.drop (p + 1)), x < y) ∧ (∀ x ∈ flat (bl.take p), ∀ y ∈ flat (bl.drop (p + 1)), x < y) := by
  have hr := h.rise
  rw [flat_split bl p hp, List.pairwise_append, List.pairwise_append] at hr
  obtain ⟨⟨_, h2, h3⟩, h4, h5⟩ := hr
  exact ⟨h2, h3, fun x hx y hy => h5 x (List.mem_append_right _ hx) y hy, fun x hx y hy => h5 x (List.mem_append_left _ hx) y hy⟩

theorem Good.ok {bl : List Blk} (h : Good bl) : BlOk bl := by
  refine ⟨fun b hb => ⟨(h.ne b hb).1, by have := (h.ne b hb).2; omega⟩, ?_, fun b hb => ?_, fun i j hij hj => ?_⟩
  · have := len_le_flat bl (fun b hb => (h.ne b hb).1)
    have := h.few
    omega
  · obtain ⟨k, hk, e⟩ := List.getElem_of_mem hb
    have := (h.parts hk).1
    rw [List.getD_eq_getElem?_getD, List.getElem?_eq_getElem hk, Option.getD_some, e] at this
    exact this
  · by_cases e : i = j
    · subst e; exact Int.le_refl _
    · have hi : i < bl.length := by omega
      have hmi : bl.getD i noBlk ∈ bl.take j := by
        rw [List.getD_eq_getElem?_getD, List.getElem?_eq_getElem hi, Option.getD_some]
        rw [List.mem_take_iff_getElem]
        exact ⟨i, by omega, rfl⟩
      have h1 := last_mem _ (h.ne _ (getD_mem hi)).1
      have h2 := last_mem _ (h.ne _ (getD_mem hj)).1
      exact Int.le_of_lt ((h.parts hj).2.1 _ (mem_flat hmi h1) _ h2)

/-- What find tells. -/
theorem find_parts {bl : List Blk} (h : Good bl) (n : Int) : (∀ i, i < findB bl n → (bl.getD i noBlk).last < n) ∧ (∀ i, findB bl n ≤ i → i < bl.length → n ≤ (bl.getD i noBlk).last) := by
  have hk := countP_range (fun i => decide (n ≤ (bl.getD i noBlk).last)) bl.length (fun a b hab hb ha => by
    have := h.ok.ends a b hab hb
    simp only [decide_eq_true_iff] at ha ⊢
    omega)
  refine ⟨fun i hi => ?_, fun i hi hl => ?_⟩
  · have := hk.1 i hi
    simp only [decide_eq_false_iff_not] at this
    omega
  · have := hk.2 i hi hl
    simpa using this

theorem take_below {bl : List Blk} (h : Good bl) (n : Int) {p : Nat} (hpf : p ≤ findB bl n) : ∀ x ∈ flat (bl.take p), x < n := by
  intro x hx
  obtain ⟨b, hb, hxb⟩ := List.mem_flatMap.1 hx
  obtain ⟨i, hi, e⟩ := List.mem_take_iff_getElem.1 hb
  have hil : i < bl.length := by omega
  have h1 := (find_parts h n).1 i (by omega)
  have hbi : bl.getD i noBlk = b := by rw [List.getD_eq_getElem?_getD, List.getElem?_eq_getElem hil, Option.getD_some]; exact e
  rw [hbi] at h1
  have h2 := (h.parts hil).1
  rw [hbi] at h2
  have := sorted_last h2 hxb
  unfold Blk.last at h1
  omega
theorem drop_above {bl : List Blk} (h : Good bl) (n : Int) {p : Nat} (hp : p < bl.length) (hpf : findB bl n ≤ p) : ∀ x ∈ flat (bl.drop (p + 1)), n < x := by
  intro x hx
  have h1 := (find_parts h n).2 p hpf hp
  have h2 := (h.parts hp).2.2.1 _ (last_mem _ (h.ne _ (getD_mem hp)).1) x hx
  omega

/-- Is a number there? -/
theorem in_iff {bl : List Blk} (h : Good bl) (n : Int) : (decide (findB bl n < bl.length) && findIn bl n) = (flat bl).contains n := by
  rw [Bool.eq_iff_iff, Bool.and_eq_true, decide_eq_true_iff, List.contains_iff_mem]
  constructor
  · rintro ⟨h1, h2⟩
    unfold findIn at h2
    rw [List.contains_iff_mem] at h2
    exact mem_flat (getD_mem h1) h2
  · intro hm
    obtain ⟨b, hb, hx⟩ := List.mem_flatMap.1 hm
    obtain ⟨i, hi, e⟩ := List.getElem_of_mem hb
    have hbi : bl.getD i noBlk = b := by rw [List.getD_eq_getElem?_getD, List.getElem?_eq_getElem hi, Option.getD_some]; exact e
    have hs := (h.parts hi).1
    rw [hbi] at hs
    have hle := sorted_last hs hx
    have hfi : findB bl n ≤ i := by
      rcases Nat.lt_or_ge i (findB bl n) with hlt | hge
      · have := (find_parts h n).1 i hlt
        rw [hbi] at this
        unfold Blk.last at this
        omega
      · exact hge
    have hfl : findB bl n < bl.length := by omega
    refine ⟨hfl, ?_⟩
    unfold findIn
    rw [List.contains_iff_mem]
    by_cases e2 : findB bl n = i
    · rw [e2, hbi]; exact hx
    · exfalso
      have h1 := (find_parts h n).2 _ (Nat.le_refl _) hfl
      have hmi : bl.getD (findB bl n) noBlk ∈ bl.take i := by
        rw [List.getD_eq_getElem?_getD, List.getElem?_eq_getElem hfl, Option.getD_some, List.mem_take_iff_getElem]
        exact ⟨findB bl n, by omega, rfl⟩
      have h2 := (h.parts hi).2.1 _ (mem_flat hmi (last_mem _ (h.ne _ (getD_mem hfl)).1)) n (by rw [hbi]; exact hx)
      omega

theorem filter_all {l : List Int} {p : Int → Bool} (h : ∀ x ∈ l, p x = true) : l.filter p = l := List.filter_eq_self.2 h
theorem filter_none {l : List Int} {p : Int → Bool} (h : ∀ x ∈ l, p x = false) : l.filter p = [] := List.filter_eq_nil_iff.2 (fun x hx => by rw [h x hx]; simp)
theorem take_count : ∀ (l : List Int) (n : Int), l.Pairwise (· < ·) → l.take (l.countP (· < n)) = l.filter (· < n) ∧ l.drop (l.countP (· < n)) = l.filter (fun x => !decide (x < n))
  | [], _, _ => ⟨rfl, rfl⟩
  | a :: l, n, h => by
    rw [List.pairwise_cons] at h
    by_cases ha : a < n
    · have ih := take_count l n h.2
      rw [List.countP_cons_of_pos (by simpa using ha), List.take_succ_cons, List.drop_succ_cons, ih.1, ih.2]
      simp [ha]
    · have hz : ∀ x ∈ a :: l, ¬ x < n := fun x hx => by
        rcases List.mem_cons.1 hx with rfl | hx
        · exact ha
        · have := h.1 x hx; omega
      have hc : (a :: l).countP (· < n) = 0 := List.countP_eq_zero.2 (fun x hx => by simpa using hz x hx)
      rw [hc]
      refine ⟨?_, ?_⟩
      · rw [List.take_zero, filter_none (fun x hx => by simpa using hz x hx)]
      · rw [List.drop_zero, filter_all (fun x hx => by simpa using hz x hx)]

/-- PUTTING A NUMBER INTO ITS BLOCK is putting it into the list. -/
theorem put_flat {bl : List Blk} (h : Good bl) (n : Int) (hn : n ∉ flat bl) {p q : Nat} (hp : p < bl.length) {b' : Blk} (hb' : b'.xs = ins (bl.getD p noBlk).xs q n)
    (hcase : (findB bl n < bl.length ∧ p = findB bl n ∧ q = (bl.getD p noBlk).xs.countP (· < n)) ∨ (findB bl n = bl.length ∧ p + 1 = bl.length ∧ q = (bl.getD p noBlk).xs.length)) :
    flat (bl.set p b') = putS (flat bl) n := by
  have hxs := (h.parts hp).1
  have hA : ∀ x ∈ flat (bl.take p), x < n := take_below h n (by rcases hcase with h | h <;> omega)
  have hnx : n ∉ (bl.getD p noBlk).xs := fun hx => hn (mem_flat (getD_mem hp) hx)
  have hD : ∀ x ∈ flat (bl.drop (p + 1)), n < x := by
    rcases hcase with ⟨h1, h2, _⟩ | ⟨_, h2, _⟩
    · exact drop_above h n hp (by omega)
    · rw [List.drop_of_length_le (by omega)]; intro x hx; simp [flat] at hx
  have hmid : ins (bl.getD p noBlk).xs q n = (bl.getD p noBlk).xs.filter (· < n) ++ n :: (bl.getD p noBlk).xs.filter (n < ·) := by
    unfold ins
    rcases hcase with ⟨_, _, rfl⟩ | ⟨h1, h2, rfl⟩
    · have := take_count _ n hxs
      rw [this.1, this.2]
      congr 2
      apply List.filter_congr
      intro x hx
      have hne : x ≠ n := fun e => hnx (by rw [← e]; exact hx)
      by_cases hlt : x < n
      · simp [hlt]; omega
      · simp [hlt]; omega
    · have hall : ∀ x ∈ (bl.getD p noBlk).xs, x < n := fun x hx => by
        have h3 := (find_parts h n).1 p (by omega)
        have := sorted_last hxs hx
        unfold Blk.last at h3
        omega
      rw [List.take_length, List.drop_length, filter_all (fun x hx => by simpa using hall x hx), filter_none (fun x hx => by have := hall x hx; simp; omega)]
  rw [flat_set bl p hp b', hb', hmid]
  conv => rhs; rw [flat_split bl p hp]
  unfold putS
  rw [List.filter_append, List.filter_append, List.filter_append, List.filter_append]
  rw [filter_all (l := flat (bl.take p)) (fun x hx => by simpa using hA x hx), filter_none (l := flat (bl.drop (p + 1))) (p := fun x => decide (x < n)) (fun x hx => by have := hD x hx; simp; omega)]
  rw [filter_none (l := flat (bl.take p)) (p := fun x => decide (n < x)) (fun x hx => by have := hA x hx; simp; omega), filter_all (l := flat (bl.drop (p + 1))) (fun x hx => by simpa using hD x hx)]
  simp

theorem putS_rise {l : List Int} (h : l.Pairwise (· < ·)) (n : Int) : (putS l n).Pairwise (· < ·) := by
  unfold putS
  rw [List.pairwise_append, List.pairwise_cons]
  refine ⟨h.filter _, ⟨fun x hx => by simpa using (List.mem_filter.1 hx).2, h.filter _⟩, fun x hx y hy => ?_⟩
  have h1 : x < n := by simpa using (List.mem_filter.1 hx).2
  rcases List.mem_cons.1 hy with rfl | hy
  · exact h1
  · have : n < y := by simpa using (List.mem_filter.1 hy).2
    omega
theorem putS_len (l : List Int) (n : Int) : (putS l n).length ≤ l.length + 1 := by
  unfold putS
  rw [List.length_append, List.length_cons]
  have h1 : (l.filter (· < n)).length + (l.filter (n < ·)).length ≤ l.length := by
    induction l with
    | nil => simp
    | cons a l ih =>
      simp only [List.filter_cons]
      by_cases h1 : a < n
      · have h2 : ¬ n < a := by omega
        simp [h1, h2]; omega
      · by_cases h2 : n < a
        · simp [h1, h2]; omega
        · simp [h1, h2]; omega
  omega
theorem putS_mem {l : List Int} (h : l.Pairwise (· < ·)) {n : Int} (hn : n ∈ l) : putS l n = l := by
  induction l with
  | nil => cases hn
  | cons a l ih =>
    rw [List.pairwise_cons] at h
    unfold putS at ih ⊢
    rcases List.mem_cons.1 hn with rfl | hm
    · rw [List.filter_cons_of_neg (by simp), List.filter_cons_of_neg (by simp)]
      rw [filter_none (fun x hx => by have := h.1 x hx; simp; omega), filter_all (fun x hx => by simpa using h.1 x hx)]
      rfl
    · have := h.1 n hm
      rw [List.filter_cons_of_pos (by simpa using this), List.filter_cons_of_neg (by simp; omega), List.cons_append, ih h.2 hm]
end Go.Proofs.Ytjpllcdjiagjlaa
