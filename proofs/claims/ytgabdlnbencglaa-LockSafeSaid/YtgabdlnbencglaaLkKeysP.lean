/-
  SORTED TEXTS, EACH ONCE: sorted and compacted is the same as put in one by one.
-/
import Derived.Test.YtgabdlnbencglaaLkSort
import Derived.Lib.SlicesCompact
namespace Go.Proofs.Ytgabdlnbencglaa
open Go.RowKit
/-- Texts that rise. -/
def UpK (l : List (List UInt8)) : Prop := l.Pairwise (· < ·)
theorem upK_same {a b : List (List UInt8)} (ha : UpK a) (hb : UpK b) (h : ∀ x, x ∈ a ↔ x ∈ b) : a = b := by
  have na : a.Nodup := ha.imp (fun {x y} hxy e => by subst e; exact List.lt_irrefl _ hxy)
  have nb : b.Nodup := hb.imp (fun {x y} hxy e => by subst e; exact List.lt_irrefl _ hxy)
  refine List.Perm.eq_of_pairwise (le := fun a b => a < b) (fun x y _ _ h1 h2 => absurd (List.lt_trans h1 h2) (List.lt_irrefl _)) ha hb ((List.perm_ext_iff_of_nodup na nb).2 h)
/-- One put in. -/
def inK (k : List UInt8) : List (List UInt8) → List (List UInt8)
  | [] => [k]
  | x :: l => if x < k then x :: inK k l else if x = k then x :: l else k :: x :: l
theorem mem_inK {k x : List UInt8} : ∀ {l : List (List UInt8)}, x ∈ inK k l ↔ x = k ∨ x ∈ l
  | [] => by simp [inK]
  | y :: l => by
    rw [inK]
    split
    · rw [List.mem_cons, List.mem_cons, mem_inK]
      constructor
      · rintro (h | h | h)
        · exact .inr (.inl h)
        · exact .inl h
        · exact .inr (.inr h)
      · rintro (h | h | h)
        · exact .inr (.inl h)
        · exact .inl h
        · exact .inr (.inr h)
    · split
      · rename_i e
        subst e
        rw [List.mem_cons]
        constructor
        · intro h; exact .inr h
        · rintro (h | h)
          · exact .inl h
          · exact h
      · rw [List.mem_cons]
theorem up_inK {k : List UInt8} : ∀ {l : List (List UInt8)}, UpK l → UpK (inK k l)
  | [], _ => by unfold UpK inK; simp
  | y :: l, h => by
    have h' := h
    unfold UpK at h'
    rw [List.pairwise_cons] at h'
    obtain ⟨h1, h2⟩ := h'
    rw [inK]
    by_cases e : y < k
    · rw [if_pos e]
      unfold UpK
      rw [List.pairwise_cons]
      refine ⟨fun x hx => ?_, up_inK h2⟩
      rcases mem_inK.1 hx with rfl | hx
      · exact e
      · exact h1 x hx
    · rw [if_neg e]
      by_cases e2 : y = k
      · rw [if_pos e2]; exact h
      · rw [if_neg e2]
        have hlt : k < y := by
          rcases List.le_total y k with q | q
          · exact absurd (List.le_antisymm q (List.not_lt.1 e)) e2
          · exact List.not_le.1 (fun q2 => e2 (List.le_antisymm q2 q))
        unfold UpK
        rw [List.pairwise_cons]
        refine ⟨fun x hx => ?_, h⟩
        rcases List.mem_cons.1 hx with rfl | hx
        · exact hlt
        · exact List.lt_trans hlt (h1 x hx)
def inAll (ks : List (List UInt8)) : List (List UInt8) := ks.foldl (fun l k => inK k l) []
theorem inAll_up (ks : List (List UInt8)) : UpK (inAll ks) ∧ ∀ x, x ∈ inAll ks ↔ x ∈ ks := by
  have : ∀ (ks l : List (List UInt8)), UpK l → UpK (ks.foldl (fun l k => inK k l) l) ∧ ∀ x, x ∈ ks.foldl (fun l k => inK k l) l ↔ x ∈ l ∨ x ∈ ks := by
    intro ks
    induction ks with
    | nil => intro l hl; exact ⟨hl, fun x => by simp⟩
    | cons k ks ih =>
      intro l hl
      obtain ⟨h1, h2⟩ := ih (inK k l) (up_inK hl)
      refine ⟨h1, fun x => ?_⟩
      rw [List.foldl_cons, h2 x, mem_inK, List.mem_cons]
      constructor
      · rintro ((h | h) | h)
        · exact .inr (.inl h)
        · exact .inl h
        · exact .inr (.inr h)
      · rintro (h | h | h)
        · exact .inl (.inr h)
        · exact .inl (.inl h)
        · exact .inr h
  obtain ⟨h1, h2⟩ := this ks [] List.Pairwise.nil
  exact ⟨h1, fun x => by rw [show inAll ks = ks.foldl (fun l k => inK k l) [] from rfl, h2 x]; simp⟩
theorem compact_up {d : Array (List UInt8)} (hs : ∀ i j, i ≤ j → j < d.size → d[i]! ≤ d[j]!) : ∀ m, m ≤ d.size → UpK (Lib.compactUpTo d m) ∧ (∀ x, x ∈ Lib.compactUpTo d m ↔ ∃ j, j < m ∧ d[j]! = x) := by
  intro m
  induction m with
  | zero =>
    intro _
    refine ⟨?_, fun x => ?_⟩
    · unfold UpK Lib.compactUpTo; simp
    · unfold Lib.compactUpTo; simp
  | succ m ih =>
    intro hm
    obtain ⟨h1, h2⟩ := ih (by omega)
    rw [Lib.compactUpTo_succ]
    cases hk : Lib.keeps d m with
    | true =>
      rw [if_pos rfl]
      have hk2 : m = 0 ∨ d[m]! ≠ d[m - 1]! := by unfold Lib.keeps at hk; exact of_decide_eq_true hk
      refine ⟨?_, fun x => ?_⟩
      · unfold UpK
        rw [List.pairwise_append]
        refine ⟨h1, by simp, fun x hx y hy => ?_⟩
        rw [List.mem_singleton] at hy
        subst hy
        obtain ⟨j, hj, rfl⟩ := (h2 x).1 hx
        have a1 := hs j (m - 1) (by omega) (by omega)
        have a2 := hs (m - 1) m (by omega) (by omega)
        have ne : d[m - 1]! ≠ d[m]! := by
          rcases hk2 with h | h
          · omega
          · exact fun e => h e.symm
        have a3 : d[m - 1]! < d[m]! := by
          refine List.not_le.1 (fun q => ne (List.le_antisymm a2 q))
        exact List.not_le.1 (fun q => List.not_le.2 a3 (List.le_trans q a1))
      · rw [List.mem_append, h2 x, List.mem_singleton]
        constructor
        · rintro (⟨j, hj, e⟩ | e)
          · exact ⟨j, by omega, e⟩
          · exact ⟨m, by omega, e.symm⟩
        · rintro ⟨j, hj, e⟩
          by_cases q : j = m
          · subst q; exact .inr e.symm
          · exact .inl ⟨j, by omega, e⟩
    | false =>
      rw [if_neg (by decide), List.append_nil]
      have hk2 : ¬ (m = 0 ∨ d[m]! ≠ d[m - 1]!) := by unfold Lib.keeps at hk; exact of_decide_eq_false hk
      refine ⟨h1, fun x => ?_⟩
      rw [h2 x]
      constructor
      · rintro ⟨j, hj, e⟩
        exact ⟨j, by omega, e⟩
      · rintro ⟨j, hj, e⟩
        by_cases q : j = m
        · subst q
          have h0 : j ≠ 0 := fun e => hk2 (.inl e)
          have e2 : d[j]! = d[j - 1]! := by
            by_cases q : d[j]! = d[j - 1]!
            · exact q
            · exact absurd (.inr q) hk2
          exact ⟨j - 1, by omega, by rw [← e2]; exact e⟩
        · exact ⟨j, by omega, e⟩
theorem compact_sort (ks : List (List UInt8)) : Lib.compact (ks.mergeSort fun x y => decide (x ≤ y)) = inAll ks := by
  have tr : ∀ a b c : List UInt8, decide (a ≤ b) = true → decide (b ≤ c) = true → decide (a ≤ c) = true := fun a b c h1 h2 => by simp only [decide_eq_true_eq] at *; exact List.le_trans h1 h2
  have tot : ∀ a b : List UInt8, (decide (a ≤ b) || decide (b ≤ a)) = true := fun a b => by simp only [Bool.or_eq_true, decide_eq_true_eq]; exact List.le_total a b
  have hp := List.mergeSort_perm ks fun x y => decide (x ≤ y)
  have hs := List.pairwise_mergeSort tr tot ks
  generalize ks.mergeSort (fun x y => decide (x ≤ y)) = ts at *
  have hs2 : ∀ i j, i ≤ j → j < ts.toArray.size → ts.toArray[i]! ≤ ts.toArray[j]! := fun i j hij hj => by
    have hj' : j < ts.length := by simpa using hj
    rw [getElem!_pos ts.toArray i (by simp; omega), getElem!_pos ts.toArray j (by simpa using hj')]
    simp only [List.getElem_toArray]
    by_cases e : i = j
    · subst e; exact List.le_refl _
    · have := (List.pairwise_iff_getElem.1 hs) i j (by omega) hj' (by omega)
      exact of_decide_eq_true this
  obtain ⟨h1, h2⟩ := compact_up hs2 ts.length (by simp)
  obtain ⟨k1, k2⟩ := inAll_up ks
  refine upK_same h1 k1 (fun x => ?_)
  show x ∈ Lib.compactUpTo ts.toArray ts.length ↔ _
  rw [h2 x, k2 x, ← hp.mem_iff]
  constructor
  · rintro ⟨j, hj, e⟩
    rw [getElem!_pos ts.toArray j (by simpa using hj)] at e
    simp only [List.getElem_toArray] at e
    rw [← e]; exact List.getElem_mem hj
  · intro h
    obtain ⟨j, hj, e⟩ := List.mem_iff_getElem.1 h
    refine ⟨j, hj, ?_⟩
    rw [getElem!_pos ts.toArray j (by simpa using hj)]
    simp only [List.getElem_toArray]
    exact e
theorem inAll_len (ks : List (List UInt8)) : (inAll ks).length ≤ ks.length := by
  have : ∀ (ks l : List (List UInt8)), (ks.foldl (fun l k => inK k l) l).length ≤ l.length + ks.length := by
    have hk : ∀ (k : List UInt8) (l : List (List UInt8)), (inK k l).length ≤ l.length + 1 := by
      intro k l
      induction l with
      | nil => simp [inK]
      | cons x l ih => rw [inK]; split <;> (try split) <;> simp <;> omega
    intro ks
    induction ks with
    | nil => intro l; simp
    | cons k ks ih => intro l; rw [List.foldl_cons]; have := ih (inK k l); have := hk k l; simp only [List.length_cons]; omega
  have := this ks []
  simpa [inAll] using this
/-- Keys, rising, each once. -/
def keysL (l : List ByteArray) : List ByteArray := ofB (inAll (lb l))
theorem ofB_mem {l : List (List UInt8)} {k : ByteArray} : k ∈ ofB l ↔ k.data.toList ∈ l := by
  unfold ofB
  rw [List.mem_map]
  constructor
  · rintro ⟨x, hx, rfl⟩; simpa using hx
  · intro h; exact ⟨_, h, by simp⟩
theorem lb_mem {l : List ByteArray} {k : ByteArray} : k.data.toList ∈ lb l ↔ k ∈ l := by
  unfold lb
  rw [List.mem_map]
  constructor
  · rintro ⟨x, hx, e⟩
    have : x = k := by
      cases x; cases k
      simp only at e
      rw [Array.toList_inj.1 e]
    rw [← this]; exact hx
  · intro h; exact ⟨k, h, rfl⟩
theorem keysL_mem {l : List ByteArray} {k : ByteArray} : k ∈ keysL l ↔ k ∈ l := by
  unfold keysL
  rw [ofB_mem, (inAll_up _).2, lb_mem]
theorem keysL_nd (l : List ByteArray) : (keysL l).Nodup := by
  unfold keysL ofB
  have h := (inAll_up (lb l)).1
  unfold UpK at h
  have hn : (inAll (lb l)).Nodup := h.imp (fun {x y} hxy e => by subst e; exact List.lt_irrefl _ hxy)
  unfold List.Nodup
  rw [List.pairwise_map]
  exact hn.imp (fun {x y} h e => h (by injection e with e; simpa using e))
theorem keysL_len (l : List ByteArray) : (keysL l).length ≤ l.length := by
  unfold keysL
  rw [ofB_len]
  have := inAll_len (lb l)
  rwa [lb_len] at this
theorem inAll_congr {a b : List (List UInt8)} (h : ∀ x, x ∈ a ↔ x ∈ b) : inAll a = inAll b :=
  upK_same (inAll_up a).1 (inAll_up b).1 (fun x => by rw [(inAll_up a).2, (inAll_up b).2]; exact h x)
theorem keysL_congr {a b : List ByteArray} (h : ∀ k, k ∈ a ↔ k ∈ b) : keysL a = keysL b := by
  unfold keysL
  rw [inAll_congr (fun x => ?_)]
  have e : x = (⟨x.toArray⟩ : ByteArray).data.toList := by simp
  rw [e, lb_mem, lb_mem]
  exact h _
end Go.Proofs.Ytgabdlnbencglaa
