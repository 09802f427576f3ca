/-
  THE CONTRACTS OF slices.Concat (over a set's blocks) AND (*Set).List: all numbers, in a new row.
-/
import Derived.Test.YtjpllcdjiagjlaaSetAdd
import Derived.Test.YtjpllcdjiagjlaaShelf2
namespace Go.Proofs.Ytjpllcdjiagjlaa
open Go.RowKit

theorem infoI : (Try.prog.info? 3).map (fun i => (i.zero, i.size, i.bytes)) = some (some (.int .i64 0), 1, 8) := by kernel_rfl
def flat (bl : List Blk) : List Int := bl.flatMap Blk.xs
theorem flat_take (bl : List Blk) (k : Nat) (h : k < bl.length) : flat (bl.take (k + 1)) = flat (bl.take k) ++ (bl.getD k noBlk).xs := by
  unfold flat
  rw [List.take_succ_eq_append_getElem h, List.flatMap_append]
  simp [List.getD_eq_getElem?_getD, h]
theorem flat_len (bl : List Blk) : (flat bl).length = (bl.map (fun b => b.xs.length)).sum := by
  unfold flat
  rw [List.length_flatMap]
theorem ints_append (a b : List Int) : ints a ++ ints b = ints (a ++ b) := by simp [ints]

def ListPost (w : World) (l : List Int) (e : Ending) (w' : World) : Prop :=
  ∃ v, e = .returned v ∧ w'.ownsRow w.heap.size 3 1 v l.length (ints l) ∧ Below w.heap.size w w'

/-- slices.Grow of the nil slice: room for so many numbers, none yet. -/
theorem grow_nil (n : Nat) (w : World) (h : n ≤ 100000000) :
    Calls Try.prog 25 #[.slice none 0 0, .int .i64 n] w fun e w' => ∃ (a : Option Addr) (c : Nat), e = .returned (.slice a 0 c) ∧ w'.ownsRow w.heap.size 3 1 (.slice a 0 c) 0 [] ∧ Below w.heap.size w w' := by
  obtain ⟨i0, hi, hz0, hz1, hz2⟩ := info_parts infoI
  by_cases h0 : n = 0
  · subst h0
    refine (Any8.slices_Grow_room Try.lays8_4 none 0 0 0 w (by omega) (by omega) (by omega) (by omega)).mono ?_
    rintro e w' ⟨rfl, rfl⟩
    exact ⟨none, 0, rfl, World.ownsRow_nil _ _ _ _, Below.refl _ _⟩
  · refine (Any8.slices_Grow_grow Try.lays8_4 i0 (.int .i64 0) hi hz0 (by omega) none 0 0 n [] w (by omega) (by omega) (by rw [hz2]; omega) (by omega) (by simp) (fun _ => rfl) (fun a ha => by cases ha)).mono ?_
    rintro e w' ⟨rfl, rfl⟩
    have hge := grownCap_ge w (0 + n) 0 3
    have hgm := grownCap_le_maxLen w (0 + n) 0 3 (by unfold maxLen; omega)
    refine ⟨_, _, rfl, ?_, ((Below.refl _ w).drew).alloc (Nat.le_refl _) _⟩
    obtain ⟨cur, hcur⟩ : ∃ cur, cur = (([] : List Value).toArray ++ Builtin.zeroCells (Value.int .i64 0).cells (0 + n - 0) ++ Builtin.zeroCells (Value.int .i64 0).cells (grownCap w (0 + n) 0 3 - (0 + n))) := ⟨_, rfl⟩
    have hA : (w.drew.alloc (.cells cur 3)).heap[w.heap.size]? = some (.cells cur 3 (0, 0)) := by
      show (w.heap.push _)[w.heap.size]? = _
      simp
    have := own_cells (w := w.drew.alloc (.cells cur 3)) (xs := []) (B := w.heap.size) (cap := grownCap w (0 + n) 0 3) (Nat.le_refl _) hA (by
      rw [hcur, Array.size_append, Array.size_append, size_zeroCells, size_zeroCells]
      have h1 : (Value.int .i64 0).cells.size = 1 := rfl
      rw [h1, List.size_toArray, List.length_nil]; omega) (by simp) hgm (fun j hj => by simp at hj)
    rw [hcur] at this
    exact this

theorem owns_cells {w : World} {B T : Nat} {b : Blk} (h : w.ownsRow B T 1 b.val b.xs.length (ints b.xs)) : ∀ j u, (ints b.xs)[j]? = some u → w.cell? ((⟨b.g, 0, none⟩ : Addr).add j) = some u := by
  intro j u hu
  have hl : (ints b.xs).length = b.xs.length := by simp [ints]
  have hj : j < b.xs.length := by have := (List.getElem?_eq_some_iff.1 hu).1; omega
  have e : (⟨b.g, 0, none⟩ : Addr).add j = ⟨b.g, j, none⟩ := by unfold Addr.add; split <;> simp_all
  rw [e, h.cellAt j (by omega), hu]

set_option maxHeartbeats 1000000 in
theorem concat_any (S : Nat) (B : Nat → Prop) (G C : Nat) (cnt : Int) (bl : List Blk) (w : World) (hm : SetMid w B S G C cnt bl) (hok : BlOk bl) :
    Calls Try.prog 19 #[.slice (some ⟨G, 0, none⟩) bl.length C] w (ListPost w (flat bl)) := by
  have few := hok.few
  obtain ⟨i0, hi, hz0, hz1, hz2⟩ := info_parts infoI
  have hle : (flat bl).length ≤ 100000000 := by
    rw [flat_len]
    have h2 : ∀ l : List Blk, (∀ b ∈ l, b.xs.length ≤ 1000) → (l.map (fun b => b.xs.length)).sum ≤ 1000 * l.length := by
      intro l
      induction l with
      | nil => intro _; simp
      | cons a l ih =>
        intro h
        have := ih (fun b hb => h b (List.mem_cons_of_mem _ hb))
        have := h a (List.mem_cons_self)
        simp only [List.map_cons, List.sum_cons, List.length_cons]; omega
    have := h2 bl (fun b hb => (hok.ne b hb).2)
    omega
  have pre : ∀ k, (flat (bl.take k)).length ≤ (flat bl).length := fun k => by
    conv => rhs; rw [← List.take_append_drop k bl]
    unfold flat
    rw [List.flatMap_append, List.length_append]; omega
  have HP := Lib.hid pre; clear pre
  have HM := Lib.hid hm; clear hm
  have HOK := Lib.hid hok; clear hok
  go_enter Try.func19, Try.ntmps19
  go_wp2
  go_loop [3, 11] (fun x i => ∃ k : Nat, k ≤ bl.length ∧ i = .int .i64 k ∧ x = .int .i64 (flat (bl.take k)).length) (fun _ i => bl.length - (intOf i).toNat)
  case atStart => exact ⟨0, Nat.zero_le _, rfl, rfl⟩
  case round =>
    obtain ⟨k, hk, rfl, rfl⟩ := hrel
    have hpk := HP.out k
    obtain ⟨t, ht⟩ : ∃ t, t = (flat (bl.take k)).length := ⟨_, rfl⟩
    rw [← ht] at hpk ⊢
    have HTk := Lib.hid ht; clear ht
    by_cases hlt : k < bl.length
    · have hg := HM.out.g0 k hlt
      have hft := flat_take bl k hlt
      have hbl := (HOK.out.ne _ (getD_mem hlt)).2
      obtain ⟨b, hb⟩ : ∃ b, b = bl.getD k noBlk := ⟨_, rfl⟩
      rw [← hb] at hg hft hbl
      have HFT := Lib.hid hft; clear hft
      clear hb
      unfold Blk.val at hg
      go_wp2
      go_round
      case rel => exact ⟨k + 1, by omega, by go_num, by rw [HFT.out, List.length_append, ← HTk.out]; go_num⟩
      case measure => simp [intOf]; omega
    · have hte : t = (flat bl).length := by rw [HTk.out, List.take_of_length_le (by omega)]
      have HTE := Lib.hid hte; clear hte
      go_wp2_with fail
      refine (grow_nil t w (by omega)).mono ?_
      rintro e w1 ⟨a, c, rfl, hown, hb1⟩
      have HO1 := Lib.hid hown; clear hown
      go_wp2
      go_loopw [6, 27] (fun v i wr => ∃ k : Nat, k ≤ bl.length ∧ i = .int .i64 k ∧ wr.ownsRow w.heap.size 3 1 v (flat (bl.take k)).length (ints (flat (bl.take k))) ∧ Below w.heap.size w wr) (fun _ i _ => bl.length - (intOf i).toNat)
      case atStart => exact ⟨0, Nat.zero_le _, rfl, HO1.out, hb1⟩
      case round =>
        obtain ⟨k2, hk2, rfl, hown, hbr⟩ := hrel
        have hsz := hbr.size
        have hpk2 := HP.out k2
        by_cases hlt2 : k2 < bl.length
        · have hg0 := (HM.out.below hbr).g0 k2 hlt2
          have hft := flat_take bl k2 hlt2
          have hmem := getD_mem hlt2
          have hbl := (HOK.out.ne _ hmem).2
          have hpk3 := HP.out (k2 + 1)
          have hrow := (HM.out.below hbr).rows _ hmem
          obtain ⟨b, hb⟩ : ∃ b, b = bl.getD k2 noBlk := ⟨_, rfl⟩
          obtain ⟨F, hF⟩ : ∃ F, F = flat (bl.take k2) := ⟨_, rfl⟩
          rw [← hb] at hg0 hft hbl hrow
          rw [← hF] at hft hpk2 hown
          rw [hft] at hpk3
          rw [List.length_append] at hpk3
          have HFT := Lib.hid hft; clear hft
          have HRW := Lib.hid hrow; clear hrow
          clear hb hF hmem
          unfold Blk.val at hg0
          go_wp2_with (at_builtin; refine wpList_append_own _ rfl _ _ 22 rfl w.heap.size 3 i0 (.int .i64 0) 1 8 Try.underlying22 hi hz0 hz1 hz2 rfl (by decide) _ _ _ rfl hown ⟨b.g, 0, none⟩ b.xs.length b.cap (ints b.xs) rfl ?c0 ?c1 ?c2 ?c3 ?c4 ?c5 ?_)
          case c0 => simp [ints]
          case c1 => exact owns_cells HRW.out
          case c2 => exact one_cell _
          case c3 => unfold maxLen; omega
          case c4 => omega
          case c5 => exact hsz
          · intro v' w2 hown' hgrow _
            have hbn : Below w.heap.size w w2 := hbr.grown hgrow hsz (fun k hk => (hown.lt k hk).1)
            rw [ints_append] at hown'
            have hl : F.length + b.xs.length = (F ++ b.xs).length := by rw [List.length_append]
            rw [hl, ← HFT.out] at hown'
            clear hgrow hown hl
            have HON := Lib.hid hown'; clear hown'
            go_wp2
            go_roundw
            case rel => exact ⟨k2 + 1, by omega, by go_num, HON.out, hbn⟩
            case measure => simp [intOf]; omega
        · have hfe : flat (bl.take k2) = flat bl := by rw [List.take_of_length_le (by omega)]
          rw [hfe] at hown
          have HON := Lib.hid hown; clear hown hfe
          go_wp2
          go_ret
          exact ⟨_, rfl, HON.out, hbr⟩

theorem set_flat_empty : flat [] = [] := rfl

set_option maxHeartbeats 400000 in
theorem list_any (S : Nat) (B : Nat → Prop) (bl : List Blk) (w : World) (hset : SetIs w B S bl) (hok : BlOk bl) (h0 : 0 < bl.length) :
    Calls Try.prog 10 #[.pointer (some ⟨S, 0, none⟩)] w (ListPost w (flat bl)) := by
  obtain ⟨G, C, hm⟩ := hset.mid h0
  have hs0 := hm.s0
  have HC := Lib.hid (concat_any S B G C _ bl w hm hok)
  clear hm hok hset
  go_enter Try.func10, Try.ntmps10
  go_wp2_with fail
  refine HC.out.mono ?_
  rintro e w1 ⟨v, rfl, hown, hb⟩
  go_wp2
  go_ret
  exact ⟨v, rfl, hown, hb⟩
end Go.Proofs.Ytjpllcdjiagjlaa
