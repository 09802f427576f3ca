/-
  THE CONTRACT OF a known transaction's behind.
-/
import Derived.Test.YtophbefmlfieeaaTxRev
namespace Go.Proofs.Ytophbefmlfieeaa
open Go.RowKit
theorem rev_nil (W : World) : Calls Try.prog 51 #[.slice none 0 0] W fun x w' => x = .returned (.tuple #[]) ∧ w' = W := AnyQ.slices_Reverse_empty Try.reverseA none 0 W
theorem rcsC_drop (l : List Rc) (ch : Nat) (h : ch ≤ l.length) (j : Nat) : (rcsC (l.drop ch))[j]? = (rcsC l)[ch * 11 + j]? := by
  have e : rcsC l = rcsC (l.take ch) ++ rcsC (l.drop ch) := by rw [← rcsC_append, List.take_append_drop]
  have hl : (rcsC (l.take ch)).length = ch * 11 := by rw [rcsC_len, List.length_take, Nat.min_eq_left h]
  rw [e, List.getElem?_append_right (by rw [hl]; omega), hl, Nat.add_sub_cancel_left]
theorem rec_base {W : World} {B B' : Nat} {v : Value} {l : List Rc} (h : RecR W B v l) (hB : B' ≤ B) : RecR W B' v l := by
  refine ⟨h.1, ?_⟩
  rcases h.2 with a | ⟨g, cap, cur, hv, hb, r⟩
  · exact .inl a
  · exact .inr ⟨g, cap, cur, hv, Nat.le_trans hB hb, r⟩
theorem behind_end {W X w2 w3 : World} {g2 c2 n : Nat} {l : List Rc} (hX : W.heap.size ≤ X.heap.size) (h2 : Below W.heap.size W w2) (r2 : RecR w2 X.heap.size (.slice (some ⟨g2, 0, none⟩) n c2) l) (hg : w2.grownBy w3 (some g2)) : Below W.heap.size W w3 :=
  ⟨hg.os.trans h2.os, hg.tape.trans h2.tape, hg.output.trans h2.output, Nat.le_trans h2.size hg.size, fun k hk => (hg.block k (Nat.lt_of_lt_of_le hk h2.size) (fun e => by
    injection e with e
    have := (World.ownsRow.lt r2 g2 rfl).1
    omega)).trans (h2.block k hk)⟩
/-- Clone of what is behind a place. -/
theorem clone_drop {W : World} {B g c : Nat} {l : List Rc} (h : RecR W B (.slice (some ⟨g, 0, none⟩) l.length c) l) (ch : Nat) (hch : ch ≤ l.length) (hl : l.length ≤ 100000) (hc : l.length ≤ c) (X : World) (hX : ∀ a : Addr, X.cell? a = W.cell? a) :
    Calls Try.prog 50 #[.slice (if c = ch then some ⟨g, 0, none⟩ else some ⟨g, ch * 11, none⟩) (l.length - ch) (c - ch)] X fun x w' => ∃ g2 c2, x = .returned (.slice (some ⟨g2, 0, none⟩) (l.length - ch) c2) ∧ RecR w' X.heap.size (.slice (some ⟨g2, 0, none⟩) (l.length - ch) c2) (l.drop ch) ∧ Below X.heap.size X w' := by
  obtain ⟨ad, had, hm⟩ : ∃ ad : Addr, (if c = ch then some (⟨g, 0, none⟩ : Addr) else some ⟨g, ch * 11, none⟩) = some ad ∧ ∀ j u, (rcsC (l.drop ch))[j]? = some u → X.cell? (ad.add j) = some u := by
    by_cases e : c = ch
    · rw [if_pos e]
      refine ⟨_, rfl, fun j u hj => ?_⟩
      have : l.drop ch = [] := List.drop_of_length_le (by omega)
      rw [this] at hj
      cases hj
    · rw [if_neg e]
      refine ⟨_, rfl, fun j u hj => ?_⟩
      rw [rcsC_drop l ch hch] at hj
      have hlt := (List.getElem?_eq_some_iff.1 hj).1
      rw [rcsC_len] at hlt
      have e2 : (⟨g, ch * 11, none⟩ : Addr).add j = ⟨g, ch * 11 + j, none⟩ := by unfold Addr.add; split <;> simp_all
      rw [e2, hX, World.ownsRow.cellAt h (ch * 11 + j) hlt]
      exact hj
  rw [had]
  have K := clone_some ad (l.drop ch) (c - ch) X (by rw [List.length_drop]; omega) hm
  rw [List.length_drop] at K
  exact K
section
variable {W : World} {B K : Nat} {d : KnD}
set_option maxRecDepth 100000 in
set_option maxHeartbeats 4000000 in
theorem behind_some (h : KnIs W B K d) (no : Int) (ch : Nat) (hch : ch ≤ d.cl.length) (hl : d.cl.length ≤ 100000) {g c : Nat} (hv : d.cv = .slice (some ⟨g, 0, none⟩) d.cl.length c) (hc : d.cl.length ≤ c) :
    Calls Try.prog 30 #[.pointer (some ⟨K, 0, none⟩), .agg #[.int .i64 no, .int .i64 ch]] W fun x w' => ∃ g2 c2, x = .returned (.slice (some ⟨g2, 0, none⟩) (d.cl.length - ch) c2) ∧ RecR w' W.heap.size (.slice (some ⟨g2, 0, none⟩) (d.cl.length - ch) c2) (d.cl.drop ch).reverse ∧ Below W.heap.size W w' := by
  have hb0 := (Below.refl W.heap.size W).alloc (Nat.le_refl _) (.cells #[.int .i64 no, .int .i64 ch] 60)
  have N0 := Lib.hid (h.below hb0)
  have B0 := Lib.hid hb0
  have p1 : (W.alloc (.cells #[.int .i64 no, .int .i64 ch] 60)).cell? ⟨W.heap.size, 1, none⟩ = some (.int .i64 ch) := new_cell rfl rfl
  clear hb0 h
  go_enter Try.func30, Try.ntmps30
  go_upto_region 1 with fail
  generalize W.alloc (.cells #[.int .i64 no, .int .i64 ch] 60) = Y at *
  have k5 := N0.out.c5
  rw [hv] at k5
  have hcr := N0.out.cr
  rw [hv] at hcr
  have KC := Lib.hid (clone_drop hcr ch hch hl hc Y.drew (fun _ => rfl))
  have BD := Lib.hid (B0.out.drew)
  have hlen : (d.cl.drop ch).length = d.cl.length - ch := List.length_drop ..
  clear hcr
  go_region_law ((go_simp; go_at_call 50; (with_reducible refine KC.out.mono ?_); rintro x w2 ⟨g2, c2, rfl, hr2, hb2⟩; have R2 := Lib.hid hr2; have B2 := Lib.hid (BD.out.trans (hb2.mono BD.out.size)); clear hr2 hb2; go_simp))
  all_goals
    have KV := rev_rcs (l := d.cl.drop ch) (by rw [hlen]; exact R2.out) (by rw [hlen]; omega)
    rw [hlen] at KV
    have KV := Lib.hid KV
    go_wp2_with fail
    all_goals
      refine KV.out.mono ?_
      rintro x w3 ⟨rfl, hr3, hg3⟩
      go_wp2
      go_ret
      exact ⟨g2, c2, rfl, rec_base hr3 BD.out.size, behind_end BD.out.size B2.out R2.out hg3⟩
set_option maxRecDepth 100000 in
set_option maxHeartbeats 4000000 in
theorem behind_nil (h : KnIs W B K d) (no : Int) (hv : d.cv = .slice none 0 0) :
    Calls Try.prog 30 #[.pointer (some ⟨K, 0, none⟩), .agg #[.int .i64 no, .int .i64 0]] W fun x w' => x = .returned (.slice none 0 0) ∧ Below W.heap.size W w' := by
  have hb0 := (Below.refl W.heap.size W).alloc (Nat.le_refl _) (.cells #[.int .i64 no, .int .i64 0] 60)
  have N0 := Lib.hid (h.below hb0)
  have B0 := Lib.hid hb0
  have p1 : (W.alloc (.cells #[.int .i64 no, .int .i64 0] 60)).cell? ⟨W.heap.size, 1, none⟩ = some (.int .i64 0) := new_cell rfl rfl
  clear hb0 h
  go_enter Try.func30, Try.ntmps30
  go_upto_region 1 with fail
  generalize W.alloc (.cells #[.int .i64 no, .int .i64 0] 60) = Y at *
  have k5 := N0.out.c5
  rw [hv] at k5
  have KC := Lib.hid (clone_nil Y.drew)
  have KV := Lib.hid (rev_nil Y.drew)
  have BD := Lib.hid (B0.out.drew)
  go_region_law ((go_simp; go_at_call 50; (with_reducible refine KC.out.mono ?_); rintro x w2 ⟨rfl, rfl⟩; go_simp))
  all_goals
    go_wp2_with fail
    all_goals
      refine KV.out.mono ?_
      rintro x w3 ⟨rfl, rfl⟩
      go_wp2
      go_ret
      exact ⟨rfl, BD.out⟩
/-- What Back tells: a row of the call's own. -/
theorem behind_any (h : KnIs W B K d) (no : Int) (ch : Nat) (hch : ch ≤ d.cl.length) (hl : d.cl.length ≤ 100000) :
    Calls Try.prog 30 #[.pointer (some ⟨K, 0, none⟩), .agg #[.int .i64 no, .int .i64 ch]] W fun x w' => ∃ v, x = .returned v ∧ RecR w' W.heap.size v (d.cl.drop ch).reverse ∧ Below W.heap.size W w' := by
  rcases h.cr.form with ⟨e, e2⟩ | ⟨g, c, e, hc, _⟩
  · rw [e2] at hch
    have hz : ch = 0 := Nat.le_zero.1 hch
    subst hz
    refine (behind_nil h no e).mono ?_
    rintro x w' ⟨rfl, hb⟩
    rw [e2]
    exact ⟨_, rfl, World.ownsRow_nil _ _ _ _, hb⟩
  · refine (behind_some h no ch hch hl e hc).mono ?_
    rintro x w' ⟨g2, c2, rfl, hr, hb⟩
    exact ⟨_, rfl, hr, hb⟩
end
end Go.Proofs.Ytophbefmlfieeaa
