/-
  A QUEUE OF WAITERS: drop.
-/
import Derived.Test.YtgabdlnbencglaaLkm1
import Derived.StillTailTactics
namespace Go.Proofs.Ytgabdlnbencglaa
open Go.RowKit
section
variable {W X : World} {K off w : Nat} {q1 q2 : List Nat}
/-- Where a drop writes. -/
def dropA (K off : Nat) (q1 : List Nat) : Nat × Nat := match q1.getLast? with | none => (K, off) | some a => (a, 4)
def dropB (K off : Nat) (q2 : List Nat) : Nat × Nat := match q2.head? with | none => (K, off + 1) | some b => (b, 3)
def dropW (W : World) (K off : Nat) (q1 q2 : List Nat) : World :=
  (W.setCell ⟨(dropA K off q1).1, (dropA K off q1).2, none⟩ (pV q2.head?)).setCell ⟨(dropB K off q2).1, (dropB K off q2).2, none⟩ (pV q1.getLast?)
theorem qe1 {i : Nat} (h : i < q1.length) : (q1 ++ w :: q2)[i]? = q1[i]? := List.getElem?_append_left h
theorem qe2 (j : Nat) : (q1 ++ w :: q2)[q1.length + 1 + j]? = q2[j]? := by
  rw [List.getElem?_append_right (by omega), show q1.length + 1 + j - q1.length = j + 1 by omega, List.getElem?_cons_succ]
theorem qe0 : (q1 ++ w :: q2)[q1.length]? = some w := by
  rw [List.getElem?_append_right (Nat.le_refl _), Nat.sub_self]; rfl
theorem pe1 {i : Nat} (h : i < q1.length) : (q1 ++ q2)[i]? = q1[i]? := List.getElem?_append_left h
theorem pe2 (j : Nat) : (q1 ++ q2)[q1.length + j]? = q2[j]? := by
  rw [List.getElem?_append_right (by omega), show q1.length + j - q1.length = j by omega]
theorem last_at : q1.getLast? = if q1.length = 0 then none else q1[q1.length - 1]? := by
  by_cases h : q1.length = 0
  · rw [if_pos h, List.length_eq_zero_iff.1 h]; rfl
  · rw [if_neg h, List.getLast?_eq_getElem?]
theorem head_at : q2.head? = q2[0]? := List.head?_eq_getElem?
theorem QAt.drop (h : QAt W K off (q1 ++ w :: q2)) : QAt (dropW W K off q1 q2) K off (q1 ++ q2) ∧ Cf W (dropW W K off q1 q2) (DropS K off (q1 ++ q2)) := by
  have hnd := h.nd
  have hnd2 : (q1 ++ q2).Nodup ∧ w ∉ q1 ++ q2 := by
    rw [List.nodup_append] at hnd ⊢
    obtain ⟨n1, n2, n3⟩ := hnd
    rw [List.nodup_cons] at n2
    refine ⟨⟨n1, n2.2, fun a ha b hb => n3 a ha b (List.mem_cons_of_mem _ hb)⟩, fun c => ?_⟩
    rcases List.mem_append.1 c with c | c
    · exact n3 w c w (by simp) rfl
    · exact n2.1 c
  have sub : ∀ x, x ∈ q1 ++ q2 → x ∈ q1 ++ w :: q2 := fun x hx => by
    rcases List.mem_append.1 hx with c | c
    · exact List.mem_append_left _ c
    · exact List.mem_append_right _ (List.mem_cons_of_mem _ c)
  have kq : K ∉ q1 ++ q2 := fun c => h.kq (sub K c)
  have hK : ∀ x, x ∈ q1 ++ q2 → x ≠ K := fun x hx e => kq (e ▸ hx)
  have h12 : ∀ a b, a ∈ q1 → b ∈ q2 → a ≠ b := fun a b ha hb => (List.nodup_append.1 hnd2.1).2.2 a ha b hb
  -- what is not where a drop writes stays
  have hA : ∀ {a}, q1.getLast? = some a → a ∈ q1 := fun e => List.mem_of_getLast? e
  have hB : ∀ {b}, q2.head? = some b → b ∈ q2 := fun e => List.mem_of_head? e
  have st : ∀ {b i : Nat} {v : Value}, W.cell? ⟨b, i, none⟩ = some v → (b ≠ (dropA K off q1).1 ∨ i ≠ (dropA K off q1).2) → (b ≠ (dropB K off q2).1 ∨ i ≠ (dropB K off q2).2) → (dropW W K off q1 q2).cell? ⟨b, i, none⟩ = some v := fun hc n1 n2 => sc_ne (sc_ne hc n1) n2
  have mA : DropS K off (q1 ++ q2) (dropA K off q1).1 (dropA K off q1).2 := by
    unfold dropA
    cases e : q1.getLast? with
    | none => exact .inl ⟨rfl, .inl rfl⟩
    | some a => exact .inr ⟨List.mem_append_left _ (hA e), .inr rfl⟩
  have mB : DropS K off (q1 ++ q2) (dropB K off q2).1 (dropB K off q2).2 := by
    unfold dropB
    cases e : q2.head? with
    | none => exact .inl ⟨rfl, .inr rfl⟩
    | some a => exact .inr ⟨List.mem_append_right _ (hB e), .inl rfl⟩
  -- who is met by the first write, by the second one
  have neA3 : ∀ x, x ∈ q1 ++ q2 → (x ≠ (dropA K off q1).1 ∨ 3 ≠ (dropA K off q1).2) := fun x hx => by
    unfold dropA
    cases e : q1.getLast? with
    | none => exact .inl (hK x hx)
    | some a => exact .inr (by simp)
  have neB4 : ∀ x, x ∈ q1 ++ q2 → (x ≠ (dropB K off q2).1 ∨ 4 ≠ (dropB K off q2).2) := fun x hx => by
    unfold dropB
    cases e : q2.head? with
    | none => exact .inl (hK x hx)
    | some a => exact .inr (by simp)
  refine ⟨⟨?_, ?_, ?_, ?_, hnd2.1, kq, ?_, ?_⟩, ?_⟩
  · -- the first one
    have nB : (K ≠ (dropB K off q2).1 ∨ off ≠ (dropB K off q2).2) := by
      unfold dropB
      cases e : q2.head? with
      | none => exact .inr (by simp)
      | some b => exact .inl (hK b (List.mem_append_right _ (hB e))).symm
    cases e : q1.getLast? with
    | none =>
      have e0 : q1 = [] := List.getLast?_eq_none_iff.1 e
      subst e0
      have e2 : dropA K off [] = (K, off) := rfl
      unfold dropW
      rw [e2]
      rw [List.nil_append]
      exact sc_ne (sc_eq h.f) nB
    | some a =>
      have hne : q1 ≠ [] := fun c => by rw [c] at e; cases e
      have hf := h.f
      have e8 : ∀ r : List Nat, (q1 ++ r).head? = q1.head? := fun r => by
        cases q1 with
        | nil => exact absurd rfl hne
        | cons _ _ => rfl
      rw [e8] at hf ⊢
      refine st hf ?_ nB
      unfold dropA
      rw [e]
      exact .inl (hK a (List.mem_append_left _ (hA e))).symm
  · have nA : (K ≠ (dropA K off q1).1 ∨ off + 1 ≠ (dropA K off q1).2) := by
      unfold dropA
      cases e : q1.getLast? with
      | none => exact .inr (by simp)
      | some b => exact .inl (hK b (List.mem_append_left _ (hA e))).symm
    cases e : q2.head? with
    | none =>
      have e0 : q2 = [] := by cases q2 with
        | nil => rfl
        | cons _ _ => cases e
      subst e0
      have e2 : dropB K off [] = (K, off + 1) := rfl
      unfold dropW
      rw [e2, List.append_nil]
      exact sc_eq (sc_ne h.l nA)
    | some b =>
      have hne : q2 ≠ [] := fun c => by rw [c] at e; cases e
      have hl := h.l
      have e3 : (q1 ++ w :: q2).getLast? = (q1 ++ q2).getLast? := by
        rw [List.getLast?_append, List.getLast?_append, List.getLast?_cons]
        cases e4 : q2.getLast? with
        | none => exact absurd (List.getLast?_eq_none_iff.1 e4) hne
        | some z => rfl
      rw [e3] at hl
      refine st hl nA ?_
      unfold dropB
      rw [e]
      exact .inl (hK b (List.mem_append_right _ (hB e))).symm
  · intro i x hi
    have hx := List.mem_of_getElem? hi
    by_cases hlt : i < q1.length
    · rw [pe1 hlt] at hi
      have ho := h.a i x (by rw [qe1 hlt]; exact hi)
      have e : (if i = 0 then none else (q1 ++ w :: q2)[i - 1]?) = (if i = 0 then none else (q1 ++ q2)[i - 1]?) := by
        by_cases e0 : i = 0
        · rw [if_pos e0, if_pos e0]
        · rw [if_neg e0, if_neg e0, qe1 (by omega), pe1 (by omega)]
      rw [e] at ho
      refine st ho (neA3 x hx) ?_
      unfold dropB
      cases e2 : q2.head? with
      | none => exact .inl (hK x hx)
      | some b => exact .inl (h12 x b (List.mem_of_getElem? hi) (hB e2))
    · obtain ⟨j, rfl⟩ : ∃ j, i = q1.length + j := ⟨i - q1.length, by omega⟩
      rw [pe2] at hi
      have ho := h.a (q1.length + 1 + j) x (by rw [qe2]; exact hi)
      rw [if_neg (by omega)] at ho
      by_cases hj : j = 0
      · subst hj
        have e2 : q2.head? = some x := by rw [head_at]; exact hi
        have e3 : dropB K off q2 = (x, 3) := by unfold dropB; rw [e2]
        have e4 : q1.getLast? = (if q1.length + 0 = 0 then none else (q1 ++ q2)[q1.length + 0 - 1]?) := by
          rw [last_at, Nat.add_zero]
          by_cases e0 : q1.length = 0
          · rw [if_pos e0, if_pos e0]
          · rw [if_neg e0, if_neg e0, pe1 (by omega)]
        rw [← e4]
        unfold dropW
        rw [e3]
        exact sc_eq (sc_ne ho (neA3 x hx))
      · obtain ⟨m, rfl⟩ : ∃ m, j = m + 1 := ⟨j - 1, by omega⟩
        rw [if_neg (by omega), show q1.length + (m + 1) - 1 = q1.length + m by omega, pe2]
        rw [show q1.length + 1 + (m + 1) - 1 = q1.length + 1 + m by omega, qe2] at ho
        refine st ho (neA3 x hx) ?_
        unfold dropB
        cases e2 : q2.head? with
        | none => exact .inl (hK x hx)
        | some b =>
          refine .inl (fun c => ?_)
          have c : x = b := c
          rw [head_at, ← c] at e2
          have := nd_at (List.nodup_append.1 hnd2.1).2.1 hi e2
          omega
  · intro i x hi
    have hx := List.mem_of_getElem? hi
    by_cases hlt : i < q1.length
    · rw [pe1 hlt] at hi
      have ho := h.b i x (by rw [qe1 hlt]; exact hi)
      by_cases hl : i + 1 < q1.length
      · rw [pe1 hl]
        rw [qe1 hl] at ho
        refine st ho ?_ (neB4 x hx)
        unfold dropA
        cases e2 : q1.getLast? with
        | none => exact .inl (hK x hx)
        | some a =>
          refine .inl (fun c => ?_)
          have c : x = a := c
          rw [last_at, if_neg (by omega), ← c] at e2
          have := nd_at (List.nodup_append.1 hnd2.1).1 hi e2
          omega
      · have e0 : i + 1 = q1.length + 0 := by omega
        have e2 : q1.getLast? = some x := by
          rw [last_at, if_neg (by omega), show q1.length - 1 = i by omega]; exact hi
        have e3 : dropA K off q1 = (x, 4) := by unfold dropA; rw [e2]
        rw [e0, pe2, ← head_at]
        have nb := neB4 x hx
        unfold dropW
        rw [e3]
        exact sc_ne (sc_eq ho) nb
    · obtain ⟨j, rfl⟩ : ∃ j, i = q1.length + j := ⟨i - q1.length, by omega⟩
      rw [pe2] at hi
      have ho := h.b (q1.length + 1 + j) x (by rw [qe2]; exact hi)
      rw [show q1.length + 1 + j + 1 = q1.length + 1 + (j + 1) by omega, qe2] at ho
      rw [show q1.length + j + 1 = q1.length + (j + 1) by omega, pe2]
      refine st ho ?_ (neB4 x hx)
      unfold dropA
      cases e2 : q1.getLast? with
      | none => exact .inl (hK x hx)
      | some a => exact .inl (h12 a x (hA e2) (List.mem_of_getElem? hi)).symm
  · intro i
    unfold dropW
    simp only [World.frozen?_setCell]
    exact h.fk i
  · intro x hx i
    unfold dropW
    simp only [World.frozen?_setCell]
    exact h.fq x (sub x hx) i
  · exact ((Cf.refl W _).set mA).set mB
set_option maxRecDepth 100000 in
theorem drop_any (h : QAt W K off (q1 ++ w :: q2)) :
    Calls Try.prog 57 #[.pointer (some ⟨K, off, none⟩), .pointer (some ⟨w, 0, none⟩)] W fun e X => e = .returned (.tuple #[]) ∧ QAt X K off (q1 ++ q2) ∧ Cf W X (DropS K off (q1 ++ q2)) := by
  have HP := Lib.hid h.drop
  have wa := h.a q1.length w qe0
  have wb := h.b q1.length w qe0
  have ea : (if q1.length = 0 then none else (q1 ++ w :: q2)[q1.length - 1]?) = q1.getLast? := by
    rw [last_at]
    by_cases e0 : q1.length = 0
    · rw [if_pos e0, if_pos e0]
    · rw [if_neg e0, if_neg e0, qe1 (by omega)]
  have eb : (q1 ++ w :: q2)[q1.length + 1]? = q2.head? := by rw [show q1.length + 1 = q1.length + 1 + 0 by omega, qe2, head_at]
  rw [ea] at wa
  rw [eb] at wb
  have hf := h.f
  have hl := h.l
  have fk := h.fk
  have hnd := h.nd
  have hKw : K ≠ w := fun e => h.kq (by rw [e]; simp)
  have hwK : w ≠ K := fun e => hKw e.symm
  have hA : ∀ {a}, q1.getLast? = some a → (∀ i, W.frozen? ⟨a, i, none⟩ = false) ∧ (∃ v, W.cell? ⟨a, 4, none⟩ = some v) ∧ a ≠ w ∧ a ≠ K := fun {a} e => by
    have hm : a ∈ q1 ++ w :: q2 := List.mem_append_left _ (List.mem_of_getLast? e)
    have hi : (q1 ++ w :: q2)[q1.length - 1]? = some a := by
      have hp : 0 < q1.length := List.length_pos_of_mem (List.mem_of_getLast? e)
      rw [qe1 (by omega), ← List.getLast?_eq_getElem?]; exact e
    exact ⟨h.fq a hm, ⟨_, h.b _ _ hi⟩, fun c => (List.nodup_append.1 hnd).2.2 a (List.mem_of_getLast? e) w (by simp) c, fun c => h.kq (c ▸ hm)⟩
  have hB : ∀ {b}, q2.head? = some b → (∀ i, W.frozen? ⟨b, i, none⟩ = false) ∧ (∃ v, W.cell? ⟨b, 3, none⟩ = some v) ∧ b ≠ w ∧ b ≠ K ∧ ∀ a, q1.getLast? = some a → a ≠ b := fun {b} e => by
    have hm2 : b ∈ q2 := List.mem_of_head? e
    have hm : b ∈ q1 ++ w :: q2 := List.mem_append_right _ (List.mem_cons_of_mem _ hm2)
    have hi : (q1 ++ w :: q2)[q1.length + 1 + 0]? = some b := by rw [qe2, ← head_at]; exact e
    exact ⟨h.fq b hm, ⟨_, h.a _ _ hi⟩, fun c => (List.nodup_cons.1 (List.nodup_append.1 hnd).2.1).1 (c ▸ hm2), fun c => h.kq (c ▸ hm), fun a ea c => (List.nodup_append.1 hnd).2.2 a (List.mem_of_getLast? ea) b (List.mem_cons_of_mem _ hm2) c⟩
  unfold dropW dropA dropB at HP
  clear h ea eb hnd
  cases e1 : q1.getLast? with
  | none =>
    cases e2 : q2.head? with
    | none =>
      rw [e1, e2] at HP
      rw [e1] at wa
      rw [e2] at wb
      simp only [pV] at HP wa wb
      generalize pV (q1 ++ w :: q2).head? = vh at hf
      generalize pV (q1 ++ w :: q2).getLast? = vl at hl
      clear hA hB e1 e2
      go_enter Try.func57, Try.ntmps57
      go_wp2
      refine bodyPost_end (v := .tuple #[]) (results_none rfl _ _ _) ?_ ?_
      · rfl
      · exact ⟨rfl, HP.out⟩
    | some b =>
      obtain ⟨fb, ⟨vb, cb⟩, bw, bK, _⟩ := hB e2
      rw [e1, e2] at HP
      rw [e1] at wa
      rw [e2] at wb
      simp only [pV] at HP wa wb
      generalize pV (q1 ++ w :: q2).head? = vh at hf
      generalize pV (q1 ++ w :: q2).getLast? = vl at hl
      have Kb : K ≠ b := fun e => bK e.symm
      have wb' : w ≠ b := fun e => bw e.symm
      clear hA hB e1 e2
      have wa2 := sc_ne (u := .pointer (some ⟨b, 0, none⟩)) (g := K) (i := off) wa (.inl hwK)
      have wb2 := sc_ne (u := .pointer (some ⟨b, 0, none⟩)) (g := K) (i := off) wb (.inl hwK)
      have cb2 := sc_ne (u := .pointer (some ⟨b, 0, none⟩)) (g := K) (i := off) cb (.inl bK)
      have fb2 : ∀ i, (W.setCell ⟨K, off, none⟩ (.pointer (some ⟨b, 0, none⟩))).frozen? ⟨b, i, none⟩ = false := fun i => by rw [World.frozen?_setCell]; exact fb i
      go_enter Try.func57, Try.ntmps57
      go_upto_region 5 with fail
      generalize W.setCell ⟨K, off, none⟩ (.pointer (some ⟨b, 0, none⟩)) = Y at *
      go_still_tail 10, (by kernel_rfl)
      go_wp2
      refine bodyPost_end (v := .tuple #[]) (results_none rfl _ _ _) ?_ ?_
      · rfl
      · exact ⟨rfl, HP.out.1.below (Below.refl _ _).drew, HP.out.2.trans (Cf.below (Below.refl _ _).drew)⟩
  | some a =>
    obtain ⟨fa, ⟨va, ca⟩, aw, aK⟩ := hA e1
    have Ka : K ≠ a := fun e => aK e.symm
    have wa' : w ≠ a := fun e => aw e.symm
    cases e2 : q2.head? with
    | none =>
      rw [e1, e2] at HP
      rw [e1] at wa
      rw [e2] at wb
      simp only [pV] at HP wa wb
      generalize pV (q1 ++ w :: q2).head? = vh at hf
      generalize pV (q1 ++ w :: q2).getLast? = vl at hl
      clear hA hB e1 e2
      go_enter Try.func57, Try.ntmps57
      go_wp2_with fail
      go_still_tail 10, (by kernel_rfl)
      go_wp2
      refine bodyPost_end (v := .tuple #[]) (results_none rfl _ _ _) ?_ ?_
      · rfl
      · exact ⟨rfl, HP.out.1.below (Below.refl _ _).drew, HP.out.2.trans (Cf.below (Below.refl _ _).drew)⟩
    | some b =>
      obtain ⟨fb, ⟨vb, cb⟩, bw, bK, hab⟩ := hB e2
      have ab := hab a e1
      have ba : b ≠ a := fun e => ab e.symm
      have Kb : K ≠ b := fun e => bK e.symm
      have wb' : w ≠ b := fun e => bw e.symm
      rw [e1, e2] at HP
      rw [e1] at wa
      rw [e2] at wb
      simp only [pV] at HP wa wb
      generalize pV (q1 ++ w :: q2).head? = vh at hf
      generalize pV (q1 ++ w :: q2).getLast? = vl at hl
      clear hA hB e1 e2 hab
      have HP2 : Hid (QAt (((W.setCell ⟨a, 4, none⟩ (.pointer (some ⟨b, 0, none⟩))).drew).setCell ⟨b, 3, none⟩ (.pointer (some ⟨a, 0, none⟩))) K off (q1 ++ q2) ∧ Cf W (((W.setCell ⟨a, 4, none⟩ (.pointer (some ⟨b, 0, none⟩))).drew).setCell ⟨b, 3, none⟩ (.pointer (some ⟨a, 0, none⟩))) (DropS K off (q1 ++ q2))) :=
        ⟨HP.out.1.below (Below.refl _ _).drew, HP.out.2.trans (Cf.below (Below.refl _ _).drew)⟩
      have wa2 : (W.setCell ⟨a, 4, none⟩ (.pointer (some ⟨b, 0, none⟩))).drew.cell? ⟨w, 3, none⟩ = some (.pointer (some ⟨a, 0, none⟩)) := sc_ne (u := .pointer (some ⟨b, 0, none⟩)) (g := a) (i := 4) wa (.inl wa')
      have wb2 : (W.setCell ⟨a, 4, none⟩ (.pointer (some ⟨b, 0, none⟩))).drew.cell? ⟨w, 4, none⟩ = some (.pointer (some ⟨b, 0, none⟩)) := sc_ne (u := .pointer (some ⟨b, 0, none⟩)) (g := a) (i := 4) wb (.inl wa')
      have cb2 : (W.setCell ⟨a, 4, none⟩ (.pointer (some ⟨b, 0, none⟩))).drew.cell? ⟨b, 3, none⟩ = some vb := sc_ne (u := .pointer (some ⟨b, 0, none⟩)) (g := a) (i := 4) cb (.inl ba)
      have fb2 : ∀ i, (W.setCell ⟨a, 4, none⟩ (.pointer (some ⟨b, 0, none⟩))).drew.frozen? ⟨b, i, none⟩ = false := fun i => by
        show (W.setCell _ _).frozen? _ = _
        rw [World.frozen?_setCell]; exact fb i
      go_enter Try.func57, Try.ntmps57
      go_upto_region 2 with fail
      go_still_tail 10, (by kernel_rfl)
      go_upto_region 5 with fail
      clear HP
      generalize (W.setCell ⟨a, 4, none⟩ (.pointer (some ⟨b, 0, none⟩))).drew = Y at *
      go_still_tail 10, (by kernel_rfl)
      go_wp2
      refine bodyPost_end (v := .tuple #[]) (results_none rfl _ _ _) ?_ ?_
      · rfl
      · exact ⟨rfl, HP2.out.1.below (Below.refl _ _).drew, HP2.out.2.trans (Cf.below (Below.refl _ _).drew)⟩
end
end Go.Proofs.Ytgabdlnbencglaa
