/-
  (*Set).join OF ANY PLACE; what dropping a number makes of the blocks (no program in sight).
-/
import Derived.Test.YtjpllcdjiagjlaaSetJoin
import Derived.Test.YtjpllcdjiagjlaaSetAddSplit
namespace Go.Proofs.Ytjpllcdjiagjlaa
open Go.RowKit

theorem join_eq (bl : List Blk) (p : Nat) (hp : p + 1 < bl.length) (c : Blk) : (bl.set p c).take (p + 1) ++ (bl.set p c).drop (p + 1 + 1) = bl.take p ++ c :: bl.drop (p + 1 + 1) := by
  have hl : (bl.take p).length = p := by rw [List.length_take]; omega
  have h1 : (bl.take p ++ [c]).length = p + 1 := by rw [List.length_append, hl]; rfl
  rw [List.set_eq_take_append_cons_drop, if_pos (by omega), show bl.take p ++ c :: bl.drop (p + 1) = (bl.take p ++ [c]) ++ bl.drop (p + 1) by simp]
  rw [List.take_left' h1, List.drop_append, h1, List.drop_of_length_le (by omega)]
  rw [List.drop_drop, show p + 1 + (p + 1 + 1 - (p + 1)) = p + 1 + 1 from by omega]
  simp
theorem flat_join (bl : List Blk) (p : Nat) (hp : p + 1 < bl.length) (c : Blk) (hc : c.xs = (bl.getD p noBlk).xs ++ (bl.getD (p + 1) noBlk).xs) : flat (bl.take p ++ c :: bl.drop (p + 1 + 1)) = flat bl := by
  have hd : bl.drop (p + 1) = (bl.getD (p + 1) noBlk) :: bl.drop (p + 1 + 1) := by
    rw [List.getD_eq_getElem?_getD, List.getElem?_eq_getElem hp, Option.getD_some]
    exact List.drop_eq_getElem_cons hp
  rw [flat_app, flat_cons, hc]
  conv => rhs; rw [flat_split bl p (by omega), hd, flat_cons]
  simp [List.append_assoc]

theorem Good.of_flat {bl bl' : List Blk} (h : Good bl) (hf : flat bl' = flat bl) (hn : ∀ b ∈ bl', 0 < b.xs.length ∧ b.xs.length ≤ 256) : Good bl' := ⟨by rw [hf]; exact h.rise, hn, by rw [hf]; exact h.few⟩

/-- What join leaves. -/
def Joined (w : World) (B : Nat → Prop) (S G C : Nat) (cnt : Int) (bl : List Blk) (e : Ending) (w' : World) : Prop :=
  e = .returned (.tuple #[]) ∧ Stay B w w' ∧ ∃ bl', SetMid w' B S G C cnt bl' ∧ Good bl' ∧ flat bl' = flat bl ∧ bl.length ≤ bl'.length + 1

theorem Good.lens {bl : List Blk} (h : Good bl) : bl.length ≤ 100000 := h.ok.few

theorem join_any (S : Nat) (B : Nat → Prop) (G C p : Nat) (cnt : Int) (bl : List Blk) (w : World) (hm : SetMid w B S G C cnt bl) (hg : Good bl) (hB : Bd B w.heap.size) (hp : p < bl.length) :
    Calls Try.prog 33 #[.pointer (some ⟨S, 0, none⟩), .int .i64 p] w (Joined w B S G C cnt bl) := by
  have keep : ∀ e w', (e = .returned (.tuple #[]) ∧ ∃ q, w' = w.drewN q) → Joined w B S G C cnt bl e w' := by
    rintro e w' ⟨rfl, q, rfl⟩
    have hb := below_drewN (Below.refl w.heap.size w) q
    exact ⟨rfl, stay_of hb hB, bl, hm.below hb, hg, rfl, by omega⟩
  by_cases h1 : p + 1 = bl.length
  · exact (join_top S B G C p cnt bl w hm h1 hg.lens).mono keep
  · by_cases h2 : 128 < (bl.getD p noBlk).xs.length + (bl.getD (p + 1) noBlk).xs.length
    · exact (join_long S B G C p cnt bl w hm (by omega) hg.lens (fun b hb => (hg.ne b hb).2) h2).mono keep
    · refine (join_do S B G C p cnt bl w hm (by omega) hg.lens hB (fun b hb => (hg.ne b hb).1) (by omega)).mono ?_
      rintro e w' ⟨rfl, hb, c, hc, hx⟩
      rw [join_eq bl p (by omega)] at hc
      have hf := flat_join bl p (by omega) c hx
      have hn := (hg.ne _ (getD_mem (show p < bl.length by omega))).1
      refine ⟨rfl, hb, _, hc, hg.of_flat hf (fun b hb => ?_), hf, by rw [List.length_append, List.length_cons, List.length_take, List.length_drop]; omega⟩
      rcases List.mem_append.1 hb with h | h
      · exact hg.ne b (List.mem_of_mem_take h)
      · rcases List.mem_cons.1 h with h | h
        · rw [h, hx, List.length_append]; omega
        · exact hg.ne b (List.mem_of_mem_drop h)
theorem join_before (S : Nat) (B : Nat → Prop) (G C p : Nat) (cnt : Int) (bl : List Blk) (w : World) (hm : SetMid w B S G C cnt bl) (hg : Good bl) (hB : Bd B w.heap.size) (hp : p ≤ bl.length) :
    Calls Try.prog 33 #[.pointer (some ⟨S, 0, none⟩), .int .i64 ((p : Int) - 1)] w (Joined w B S G C cnt bl) := by
  by_cases h0 : p = 0
  · subst h0
    refine (join_low S w).mono ?_
    rintro e w' ⟨rfl, q, rfl⟩
    have hb := below_drewN (Below.refl w.heap.size w) q
    exact ⟨rfl, stay_of hb hB, bl, hm.below hb, hg, rfl, by omega⟩
  · have := join_any S B G C (p - 1) cnt bl w hm hg hB (by omega)
    rw [show ((p - 1 : Nat) : Int) = (p : Int) - 1 from by omega] at this
    exact this

/-! ### a number less -/
def cutX (l : List Int) (q : Nat) : List Int := l.take q ++ l.drop (q + 1)
theorem cutX_sub (l : List Int) (q : Nat) : (cutX l q).Sublist l := by
  unfold cutX; rw [← List.eraseIdx_eq_take_drop_succ]; exact List.eraseIdx_sublist _ _
theorem cutX_len (l : List Int) (q : Nat) (h : q < l.length) : (cutX l q).length = l.length - 1 := by
  unfold cutX; rw [List.length_append, List.length_take, List.length_drop]; omega
def delX (bl : List Blk) (p q : Nat) : List Int := flat (bl.take p) ++ cutX (bl.getD p noBlk).xs q ++ flat (bl.drop (p + 1))
theorem delX_sub (bl : List Blk) (p q : Nat) (hp : p < bl.length) : (delX bl p q).Sublist (flat bl) := by
  rw [flat_split bl p hp]
  exact ((List.Sublist.refl _).append (cutX_sub _ _)).append (List.Sublist.refl _)
theorem Good.cut {bl : List Blk} (h : Good bl) {p q : Nat} (hp : p < bl.length) (b' : Blk) (hb : b'.xs = cutX (bl.getD p noBlk).xs q) (h0 : 0 < b'.xs.length) : Good (bl.set p b') ∧ flat (bl.set p b') = delX bl p q := by
  have hf : flat (bl.set p b') = delX bl p q := by rw [flat_set bl p hp, hb]; rfl
  have hs := delX_sub bl p q hp
  refine ⟨⟨by rw [hf]; exact h.rise.sublist hs, fun b hm => ?_, by rw [hf]; exact Nat.le_trans hs.length_le h.few⟩, hf⟩
  rcases List.mem_or_eq_of_mem_set hm with hm | hm
  · exact h.ne b hm
  · rw [hm]
    refine ⟨h0, ?_⟩
    rw [hb]
    exact Nat.le_trans (cutX_sub _ _).length_le (h.ne _ (getD_mem hp)).2
theorem Good.gone {bl : List Blk} (h : Good bl) {p q : Nat} (hp : p < bl.length) (h0 : cutX (bl.getD p noBlk).xs q = []) : Good (bl.take p ++ bl.drop (p + 1)) ∧ flat (bl.take p ++ bl.drop (p + 1)) = delX bl p q := by
  have hf : flat (bl.take p ++ bl.drop (p + 1)) = delX bl p q := by rw [flat_app]; unfold delX; rw [h0, List.append_nil]
  have hs := delX_sub bl p q hp
  refine ⟨⟨by rw [hf]; exact h.rise.sublist hs, fun b hm => ?_, by rw [hf]; exact Nat.le_trans hs.length_le h.few⟩, hf⟩
  rcases List.mem_append.1 hm with hm | hm
  · exact h.ne b (List.mem_of_mem_take hm)
  · exact h.ne b (List.mem_of_mem_drop hm)

/-- A rising list without a number. -/
def delS (l : List Int) (n : Int) : List Int := l.filter (· != n)
theorem delS_none {l : List Int} {n : Int} (h : n ∉ l) : delS l n = l := by
  unfold delS
  refine List.filter_eq_self.2 (fun x hx => ?_)
  have : x ≠ n := fun e => h (by rw [← e]; exact hx)
  simpa using this
theorem cut_count {l : List Int} {n : Int} (h : l.Pairwise (· < ·)) (hn : n ∈ l) : cutX l (l.countP (· < n)) = delS l n ∧ l.countP (· < n) < l.length := by
  induction l with
  | nil => cases hn
  | cons a l ih =>
    rw [List.pairwise_cons] at h
    rcases List.mem_cons.1 hn with rfl | hm
    · have hz : ∀ x ∈ n :: l, ¬ x < n := fun x hx => by
        rcases List.mem_cons.1 hx with rfl | hx
        · omega
        · have := h.1 x hx; omega
      have hc : (n :: l).countP (· < n) = 0 := List.countP_eq_zero.2 (fun x hx => by simpa using hz x hx)
      rw [hc]
      have hnl : n ∉ l := fun hx => by have := h.1 n hx; omega
      refine ⟨?_, by simp⟩
      have h2 := delS_none hnl
      unfold delS at h2 ⊢
      rw [List.filter_cons_of_neg (by simp), h2]
      rfl
    · have := h.1 n hm
      have hi := ih h.2 hm
      have hc : (a :: l).countP (· < n) = l.countP (· < n) + 1 := List.countP_cons_of_pos (by simpa using this)
      rw [hc]
      refine ⟨?_, by rw [List.length_cons]; omega⟩
      have h2 := hi.1
      unfold cutX delS at h2 ⊢
      rw [List.take_succ_cons, List.drop_succ_cons, List.filter_cons_of_pos (by have : a ≠ n := by omega
                                                                                simpa using this), List.cons_append, h2]
/-- DROPPING A NUMBER FROM ITS BLOCK is dropping it from the list. -/
theorem del_flat {bl : List Blk} (h : Good bl) (n : Int) (hn : n ∈ flat bl) : findB bl n < bl.length ∧ findAt bl n < (bl.getD (findB bl n) noBlk).xs.length ∧ delX bl (findB bl n) (findAt bl n) = delS (flat bl) n := by
  have hi : (decide (findB bl n < bl.length) && findIn bl n) = true := by rw [in_iff h n, List.contains_iff_mem]; exact hn
  rw [Bool.and_eq_true, decide_eq_true_iff] at hi
  obtain ⟨hp, hin⟩ := hi
  unfold findIn at hin
  rw [List.contains_iff_mem] at hin
  have hc := cut_count (h.parts hp).1 hin
  refine ⟨hp, hc.2, ?_⟩
  unfold delX findAt
  rw [hc.1]
  conv => rhs; rw [flat_split bl (findB bl n) hp]
  unfold delS
  rw [List.filter_append, List.filter_append]
  have h1 := (h.parts hp).2.1
  have h2 := (h.parts hp).2.2.1
  have e1 : (flat (bl.take (findB bl n))).filter (· != n) = flat (bl.take (findB bl n)) := List.filter_eq_self.2 (fun x hx => by
    have := h1 x hx n hin
    have : x ≠ n := by omega
    simpa using this)
  have e2 : (flat (bl.drop (findB bl n + 1))).filter (· != n) = flat (bl.drop (findB bl n + 1)) := List.filter_eq_self.2 (fun x hx => by
    have := h2 n hin x hx
    have : x ≠ n := by omega
    simpa using this)
  rw [e1, e2]
end Go.Proofs.Ytjpllcdjiagjlaa
