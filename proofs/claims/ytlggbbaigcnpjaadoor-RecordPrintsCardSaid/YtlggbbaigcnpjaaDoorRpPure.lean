/-
  A RECORD'S PRINT: the words of it, one blank between; unlike right records have unlike ones.
-/
import Derived.Test.YtlggbbaigcnpjaaDoorRpRow
namespace Go.Proofs.YtlggbbaigcnpjaaDoor
open Go.RowKit

/-! ### No word has a blank in it; words put together with blanks between are told apart. -/
def NoB (l : List UInt8) : Prop := (32 : UInt8) ∉ l
theorem joinTail_cons (sep x : List UInt8) (r : List (List UInt8)) : Lib.joinTail sep (x :: r) = sep ++ x ++ Lib.joinTail sep r := by
  unfold Lib.joinTail; simp
theorem split_one : ∀ {a b x y : List UInt8}, NoB a → NoB b → (x = [] ∨ ∃ x', x = 32 :: x') → (y = [] ∨ ∃ y', y = 32 :: y') → a ++ x = b ++ y → a = b ∧ x = y
  | [], [], _, _, _, _, _, _, h => ⟨rfl, h⟩
  | [], b :: bb, x, y, _, hb, hx, _, h => by
    rcases hx with rfl | ⟨x', rfl⟩
    · simp at h
    · rw [List.nil_append, List.cons_append] at h
      injection h with h1 _
      exact absurd (by rw [← h1]; exact List.mem_cons_self) hb
  | a :: aa, [], x, y, ha, _, _, hy, h => by
    rcases hy with rfl | ⟨y', rfl⟩
    · simp at h
    · rw [List.nil_append, List.cons_append] at h
      injection h with h1 _
      exact absurd (by rw [h1]; exact List.mem_cons_self) ha
  | a :: aa, b :: bb, x, y, ha, hb, hx, hy, h => by
    rw [List.cons_append, List.cons_append] at h
    injection h with h1 h2
    obtain ⟨e1, e2⟩ := split_one (fun m => ha (List.mem_cons_of_mem _ m)) (fun m => hb (List.mem_cons_of_mem _ m)) hx hy h2
    exact ⟨by rw [h1, e1], e2⟩
theorem tail_form (r : List (List UInt8)) : Lib.joinTail [32] r = [] ∨ ∃ x', Lib.joinTail [32] r = 32 :: x' := by
  cases r with
  | nil => exact .inl rfl
  | cons y r => exact .inr ⟨y ++ Lib.joinTail [32] r, by rw [joinTail_cons]; simp⟩
theorem tails_inj : ∀ {xs ys : List (List UInt8)}, (∀ x ∈ xs, NoB x) → (∀ y ∈ ys, NoB y) → Lib.joinTail [32] xs = Lib.joinTail [32] ys → xs = ys
  | [], [], _, _, _ => rfl
  | [], y :: ys, _, _, h => by rw [joinTail_cons] at h; simp [Lib.joinTail] at h
  | x :: xs, [], _, _, h => by rw [joinTail_cons] at h; simp [Lib.joinTail] at h
  | x :: xs, y :: ys, hx, hy, h => by
    rw [joinTail_cons, joinTail_cons] at h
    simp only [List.cons_append, List.nil_append, List.cons.injEq, true_and] at h
    obtain ⟨e1, e2⟩ := split_one (hx x List.mem_cons_self) (hy y List.mem_cons_self) (tail_form _) (tail_form _) h
    rw [e1, tails_inj (fun z hz => hx z (List.mem_cons_of_mem _ hz)) (fun z hz => hy z (List.mem_cons_of_mem _ hz)) e2]
theorem join_inj {x y : List UInt8} {xs ys : List (List UInt8)} (hx : ∀ z ∈ x :: xs, NoB z) (hy : ∀ z ∈ y :: ys, NoB z) (h : Lib.join (x :: xs) [32] = Lib.join (y :: ys) [32]) : x :: xs = y :: ys := by
  rw [Lib.join_cons, Lib.join_cons] at h
  obtain ⟨e1, e2⟩ := split_one (hx x List.mem_cons_self) (hy y List.mem_cons_self) (tail_form _) (tail_form _) h
  rw [e1, tails_inj (fun z hz => hx z (List.mem_cons_of_mem _ hz)) (fun z hz => hy z (List.mem_cons_of_mem _ hz)) e2]

/-! ### Digits. -/
def decVal (l : List UInt8) : Nat := l.foldl (fun n c => n * 10 + (c.toNat - 48)) 0
theorem digit_nat {d : Nat} (h : d < 10) : (UInt8.ofNat (48 + d)).toNat = 48 + d := by
  rw [UInt8.toNat_ofNat', Nat.mod_eq_of_lt (by omega)]
theorem decVal_dec : ∀ u : Nat, decVal (Lib.decDigits u) = u := fun u => by
  induction u using Nat.strongRecOn with
  | _ u ih =>
    by_cases h : u < 10
    · rw [Lib.decDigits_one h]
      unfold decVal
      simp only [List.foldl_cons, List.foldl_nil]
      rw [digit_nat h]; omega
    · rw [Lib.decDigits, dif_neg h]
      have := ih (u / 10) (by omega)
      unfold decVal at this ⊢
      rw [List.foldl_append, this]
      simp only [List.foldl_cons, List.foldl_nil]
      rw [digit_nat (Nat.mod_lt _ (by omega))]; omega
theorem dec_inj {a b : Nat} (h : Lib.decDigits a = Lib.decDigits b) : a = b := by
  rw [← decVal_dec a, h, decVal_dec]
theorem dec_noB (u : Nat) : NoB (Lib.decDigits u) := by
  induction u using Nat.strongRecOn with
  | _ u ih =>
    have hne : ∀ d : Nat, d < 10 → (32 : UInt8) ≠ UInt8.ofNat (48 + d) := fun d hd e => by
      have := congrArg UInt8.toNat e
      rw [digit_nat hd] at this
      have h32 : (32 : UInt8).toNat = 32 := rfl
      omega
    by_cases h : u < 10
    · rw [Lib.decDigits_one h]
      intro hm
      exact hne u h (List.mem_singleton.1 hm)
    · rw [Lib.decDigits, dif_neg h]
      intro hm
      rcases List.mem_append.1 hm with hm | hm
      · exact ih (u / 10) (by omega) hm
      · exact hne _ (Nat.mod_lt _ (by omega)) (List.mem_singleton.1 hm)
theorem hexD_inj : ∀ a b : Fin 16, hexD a.val = hexD b.val → a = b := by decide +kernel
theorem hexD_noB : ∀ a : Fin 16, (32 : UInt8) ≠ hexD a.val := by decide +kernel
theorem hexL_inj : ∀ {a b : List UInt8}, hexL a = hexL b → a = b
  | [], [], _ => rfl
  | [], c :: l, h => by simp [hexL] at h
  | c :: l, [], h => by simp [hexL] at h
  | c :: l, d :: m, h => by
    have hc := c.toNat_lt
    have hd := d.toNat_lt
    unfold hexL at h
    rw [List.flatMap_cons, List.flatMap_cons] at h
    simp only [List.cons_append, List.nil_append, List.cons.injEq] at h
    obtain ⟨h1, h2, h3⟩ := h
    have e1 := congrArg Fin.val (hexD_inj ⟨c.toNat / 16, by omega⟩ ⟨d.toNat / 16, by omega⟩ h1)
    have e2 := congrArg Fin.val (hexD_inj ⟨c.toNat % 16, by omega⟩ ⟨d.toNat % 16, by omega⟩ h2)
    simp only at e1 e2
    have e : c = d := UInt8.toNat_inj.1 (by omega)
    rw [e, hexL_inj h3]
theorem hexL_noB (l : List UInt8) : NoB (hexL l) := by
  intro hm
  unfold hexL at hm
  obtain ⟨c, _, hc⟩ := List.mem_flatMap.1 hm
  have hlt := c.toNat_lt
  simp only [List.mem_cons, List.not_mem_nil, or_false] at hc
  rcases hc with h | h
  · exact hexD_noB ⟨c.toNat / 16, by omega⟩ h
  · exact hexD_noB ⟨c.toNat % 16, by omega⟩ h
theorem toldL_noB (h : Bool) (s : ByteArray) : NoB (toldL h s) := by
  unfold toldL
  cases h
  · rw [if_neg (by decide)]; unfold NoB; decide
  · rw [if_pos rfl]
    intro hm
    rcases List.mem_cons.1 hm with h | h
    · exact absurd h (by decide)
    · exact hexL_noB _ h
theorem ba_same {a b : ByteArray} (h : a.data.toList = b.data.toList) : a = b := by
  obtain ⟨⟨x⟩⟩ := a
  obtain ⟨⟨y⟩⟩ := b
  simpa using h
theorem toldL_inj {h h' : Bool} {s s' : ByteArray} (n : h = false → s = ⟨#[]⟩) (n' : h' = false → s' = ⟨#[]⟩) (e : toldL h s = toldL h' s') : h = h' ∧ s = s' := by
  unfold toldL at e
  cases h <;> cases h'
  · exact ⟨rfl, by rw [n rfl, n' rfl]⟩
  · simp at e
  · simp at e
  · rw [if_pos rfl, if_pos rfl] at e
    injection e with _ e
    exact ⟨rfl, ba_same (hexL_inj e)⟩
theorem name_noB : ∀ k : Fin 7, (32 : UInt8) ∉ nameTexts.getD k.val [] := by decide +kernel
theorem name_inj : ∀ a b : Fin 7, 0 < a.val → 0 < b.val → nameTexts.getD a.val [] = nameTexts.getD b.val [] → a = b := by decide +kernel
theorem name_len : ∀ k : Fin 7, (nameTexts.getD k.val []).length ≤ 6 := by decide +kernel

/-! ### A record's words. -/
def words (k g t p pg : Int) (key : ByteArray) (hb : Bool) (sb : ByteArray) (ha : Bool) (sa : ByteArray) (u : Int) : List (List UInt8) :=
  nameTexts.getD k.toNat [] :: Lib.decDigits t.toNat :: Lib.decDigits g.toNat :: Lib.decDigits p.toNat ::
    ((if (k == 2 || k == 3) then [Lib.decDigits pg.toNat, hexL key.data.toList, toldL hb sb, toldL ha sa] else []) ++ (if 0 < usz k then [Lib.decDigits u.toNat] else []))
def prt (k g t p pg : Int) (key : ByteArray) (hb : Bool) (sb : ByteArray) (ha : Bool) (sa : ByteArray) (u : Int) : ByteArray := txt (Lib.join (words k g t p pg key hb sb ha sa u) [32])
theorem words_noB {k g t p pg u : Int} {key sb sa : ByteArray} {hb ha : Bool} (h1 : 1 ≤ k) (h6 : k ≤ 6) : ∀ z ∈ words k g t p pg key hb sb ha sa u, NoB z := by
  intro z hz
  unfold words at hz
  simp only [List.mem_cons, List.mem_append] at hz
  rcases hz with rfl | rfl | rfl | rfl | hz | hz
  · exact name_noB ⟨k.toNat, by omega⟩
  · exact dec_noB _
  · exact dec_noB _
  · exact dec_noB _
  · split at hz
    · simp only [List.mem_cons, List.not_mem_nil, or_false] at hz
      rcases hz with rfl | rfl | rfl | rfl
      · exact dec_noB _
      · exact hexL_noB _
      · exact toldL_noB _ _
      · exact toldL_noB _ _
    · cases hz
  · split at hz
    · simp only [List.mem_cons, List.not_mem_nil, or_false] at hz
      subst hz; exact dec_noB _
    · cases hz
theorem txt_inj {a b : List UInt8} (h : txt a = txt b) : a = b := congrArg (fun s : ByteArray => s.data.toList) h
def nil : ByteArray := ⟨#[]⟩
theorem ba_nil {s : ByteArray} (h : s.toList = []) : s = ⟨#[]⟩ := by
  apply ba_same
  rw [← ByteArray.toList_eq]; exact h
theorem rcOk_plain {k g t p pg u : Int} {key sb sa : ByteArray} {hb ha : Bool} (h : rcOk k g t p pg key hb sb ha sa u = true) (hc : (k == 2 || k == 3) = false) :
    pg = 0 ∧ key = ⟨#[]⟩ ∧ hb = false ∧ sb = ⟨#[]⟩ ∧ ha = false ∧ sa = ⟨#[]⟩ := by
  unfold rcOk rcSame at h
  rw [hc] at h
  simp only [Bool.and_eq_true, Bool.false_or, decide_eq_true_eq, Bool.not_eq_true'] at h
  obtain ⟨_, ⟨⟨⟨⟨h1, h2⟩, h3⟩, h4⟩, h5⟩, h6⟩ := h
  exact ⟨h1, ba_nil h2, h3, ba_nil h4, h5, ba_nil h6⟩
theorem rcOk_u0 {k g t p pg u : Int} {key sb sa : ByteArray} {hb ha : Bool} (h : rcOk k g t p pg key hb sb ha sa u = true) (hu : usz k = 0) : u = 0 := by
  unfold rcOk at h
  simp only [Bool.and_eq_true] at h
  have hx := h.1.2
  unfold rcUndone at hx
  by_cases e3 : k = 3
  · subst e3; exact absurd hu (by decide)
  · by_cases e4 : k = 4
    · subst e4; exact absurd hu (by decide)
    · rw [if_neg e3, if_neg e4] at hx
      simpa using hx
theorem rcOk_vals {k g t p pg u : Int} {key sb sa : ByteArray} {hb ha : Bool} (h : rcOk k g t p pg key hb sb ha sa u = true) (hc : (k == 2 || k == 3) = true) :
    (hb = false → sb = ⟨#[]⟩) ∧ (ha = false → sa = ⟨#[]⟩) := by
  unfold rcOk rcChg at h
  rw [hc] at h
  simp only [Bool.and_eq_true, Bool.not_true, Bool.false_or] at h
  obtain ⟨⟨⟨_, ⟨⟨_, h5, h6⟩, _⟩⟩, _⟩, _⟩ := h
  have hv : ∀ (b : Bool) (s : ByteArray), vlOk b s = true → b = false → s = ⟨#[]⟩ := fun b s hs hb => by
    subst hb
    unfold vlOk at hs
    simp only [Bool.false_and, Bool.not_false, Bool.true_and, Bool.false_or, decide_eq_true_eq] at hs
    exact ba_nil hs
  exact ⟨hv _ _ h5, hv _ _ h6⟩
theorem prt_inj {k g t p pg u k' g' t' p' pg' u' : Int} {key sb sa key' sb' sa' : ByteArray} {hb ha hb' ha' : Bool}
    (h : rcOk k g t p pg key hb sb ha sa u = true) (h' : rcOk k' g' t' p' pg' key' hb' sb' ha' sa' u' = true) (e : prt k g t p pg key hb sb ha sa u = prt k' g' t' p' pg' key' hb' sb' ha' sa' u') :
    k = k' ∧ g = g' ∧ t = t' ∧ p = p' ∧ pg = pg' ∧ key = key' ∧ hb = hb' ∧ sb = sb' ∧ ha = ha' ∧ sa = sa' ∧ u = u' := by
  obtain ⟨a1, a2, a3, a4, a5, a6, a7, a8⟩ := rcOk_num h
  obtain ⟨b1, b2, b3, b4, b5, b6, b7, b8⟩ := rcOk_num h'
  obtain ⟨u1, u2⟩ := rcOk_u h
  obtain ⟨v1, v2⟩ := rcOk_u h'
  have e := txt_inj e
  have e := join_inj (words_noB a1 a2) (words_noB b1 b2) e
  simp only [List.cons.injEq] at e
  obtain ⟨e1, e2, e3, e4, e5⟩ := e
  have hk := congrArg Fin.val (name_inj ⟨k.toNat, by omega⟩ ⟨k'.toNat, by omega⟩ (by show 0 < k.toNat; omega) (by show 0 < k'.toNat; omega) e1)
  simp only at hk
  have hk : k = k' := by omega
  subst hk
  have ht := dec_inj e2
  have hg := dec_inj e3
  have hp := dec_inj e4
  have ht : t = t' := by omega
  have hg : g = g' := by omega
  have hp : p = p' := by omega
  cases hc : (k == 2 || k == 3)
  · obtain ⟨x1, x2, x3, x4, x5, x6⟩ := rcOk_plain h hc
    obtain ⟨y1, y2, y3, y4, y5, y6⟩ := rcOk_plain h' hc
    have hu : u = u' := by
      by_cases hz : 0 < usz k
      · simp only [hc, if_pos hz, Bool.false_eq_true, if_false, List.nil_append, List.cons.injEq, and_true] at e5
        have := dec_inj e5
        omega
      · rw [rcOk_u0 h (by omega), rcOk_u0 h' (by omega)]
    exact ⟨rfl, hg, ht, hp, by rw [x1, y1], by rw [x2, y2], by rw [x3, y3], by rw [x4, y4], by rw [x5, y5], by rw [x6, y6], hu⟩
  · obtain ⟨c1, c2, c3, c4, c5, c6⟩ := rcOk_chg h hc
    obtain ⟨d1, d2, d3, d4, d5, d6⟩ := rcOk_chg h' hc
    obtain ⟨n1, n2⟩ := rcOk_vals h hc
    obtain ⟨m1, m2⟩ := rcOk_vals h' hc
    rw [hc, if_pos rfl, if_pos rfl] at e5
    simp only [List.cons_append, List.nil_append, List.cons.injEq] at e5
    obtain ⟨f1, f2, f3, f4, f5⟩ := e5
    have hpg := dec_inj f1
    obtain ⟨g1, g2⟩ := toldL_inj n1 m1 f3
    obtain ⟨g3, g4⟩ := toldL_inj n2 m2 f4
    have hu : u = u' := by
      by_cases hz : 0 < usz k
      · rw [if_pos hz, if_pos hz] at f5
        injection f5 with e6 _
        have := dec_inj e6
        omega
      · rw [rcOk_u0 h (by omega), rcOk_u0 h' (by omega)]
    exact ⟨rfl, hg, ht, hp, by omega, ba_same (hexL_inj f2), g1, g2, g3, g4, hu⟩
theorem joinTail_len : ∀ {r : List (List UInt8)}, (∀ z ∈ r, z.length ≤ 50) → (Lib.joinTail [32] r).length ≤ 51 * r.length
  | [], _ => Nat.le_refl _
  | x :: r, h => by
    have h1 := h x List.mem_cons_self
    have h2 := joinTail_len (fun z hz => h z (List.mem_cons_of_mem _ hz))
    rw [joinTail_cons, List.length_append, List.length_append, List.length_cons, List.length_cons]
    simp only [List.length_nil]
    omega
theorem join_len {x : List UInt8} {r : List (List UInt8)} (h : ∀ z ∈ x :: r, z.length ≤ 50) (h9 : r.length ≤ 20) : (Lib.join (x :: r) [32]).length ≤ 100000 := by
  have h1 := h x List.mem_cons_self
  have h2 := joinTail_len (fun z hz => h z (List.mem_cons_of_mem _ hz))
  rw [Lib.join_cons, List.length_append]
  omega
end Go.Proofs.YtlggbbaigcnpjaaDoor
