/-
  ADDING AND DROPPING ONE NUMBER, ANY MANY NUMBERS: sets of up to 100000 numbers.
-/
import Derived.Test.YtjpllcdjiagjlaaSetOf
import Derived.Test.YtjpllcdjiagjlaaSetDropWalk
namespace Go.Proofs.Ytjpllcdjiagjlaa
open Go.RowKit

/-- One number more, in a set of any size that is asked of. -/
theorem add_any (S : Nat) (B : Nat → Prop) (n : Int) (l : List Int) (w : World) (hset : SetOk w B S l) (hB : Bd B w.heap.size) (hl : l.length + 1 ≤ 100000) :
    Calls Try.prog 22 #[.pointer (some ⟨S, 0, none⟩), .int .i64 n] w fun e w' => e = .returned (.tuple #[]) ∧ SetOk w' B S (putS l n) ∧ Stay B w w' := by
  obtain ⟨bl, his, hg, rfl⟩ := hset
  by_cases hn : n ∈ flat bl
  · refine (add_found S B n bl w his hg hn).mono ?_
    rintro e w' ⟨rfl, hb⟩
    rw [putS_mem hg.rise hn]
    exact ⟨rfl, ⟨bl, his.below hb, hg, rfl⟩, stay_of hb hB⟩
  · by_cases h0 : bl.length = 0
    · have : bl = [] := List.length_eq_zero_iff.1 h0
      subst this
      refine (add_first S B n w his hB).mono ?_
      rintro e w' ⟨rfl, hs, hb⟩
      exact ⟨rfl, hs, hb⟩
    · have h0' : 0 < bl.length := by omega
      have hf := find_some S B n bl w his hg.ok h0'
      have hi : (decide (findB bl n < bl.length) && findIn bl n) = false := by
        rw [in_iff hg n]
        cases h : (flat bl).contains n
        · rfl
        · exact absurd (List.contains_iff_mem.1 h) hn
      rw [hi] at hf
      have hle := findB_le bl n
      have key : ∀ p q a0 : Nat, Calls Try.prog 20 #[.pointer (some ⟨S, 0, none⟩), .int .i64 n] w (fun e w' => e = .returned (.tuple #[.int .i64 (findB bl n), .int .i64 a0, .bool false]) ∧ Below w.heap.size w w') →
          (hp : p < bl.length) → q ≤ (bl.getD p noBlk).xs.length →
          ((findB bl n < bl.length ∧ p = findB bl n ∧ q = a0) ∨ (findB bl n = bl.length ∧ p + 1 = bl.length ∧ q = (bl.getD p noBlk).xs.length)) →
          ((findB bl n < bl.length ∧ p = findB bl n ∧ q = (bl.getD p noBlk).xs.countP (· < n)) ∨ (findB bl n = bl.length ∧ p + 1 = bl.length ∧ q = (bl.getD p noBlk).xs.length)) →
          Calls Try.prog 22 #[.pointer (some ⟨S, 0, none⟩), .int .i64 n] w fun e w' => e = .returned (.tuple #[]) ∧ SetOk w' B S (putS (flat bl) n) ∧ Stay B w w' := by
        intro p q a0 hf hp hq hc1 hc2
        have hlen := (hg.ne _ (getD_mem hp)).2
        by_cases hfull : (bl.getD p noBlk).xs.length = 256
        · refine (add_split S B p q _ a0 n bl w his hg.ok h0' hB hf hp hq hc1 hfull).mono ?_
          rintro e w' ⟨rfl, ⟨lo, hi', hs, hx1, hx2⟩, hb⟩
          have hfl := put_flat hg n hn hp (b' := ⟨0, 0, ins (bl.getD p noBlk).xs q n⟩) rfl hc2
          have hfl2 : flat (insB (bl.set p lo) (p + 1) hi') = putS (flat bl) n := by
            rw [← hfl, flat_ins2 bl p hp, flat_set bl p hp, hx1, hx2]
            show _ = flat (bl.take p) ++ ins (bl.getD p noBlk).xs q n ++ flat (bl.drop (p + 1))
            rw [List.append_assoc (flat (bl.take p)), List.take_append_drop]
          have hil := ins_len (bl.getD p noBlk).xs q n hq
          refine ⟨rfl, ⟨_, hs, ⟨by rw [hfl2]; exact putS_rise hg.rise n, fun b hb => ?_, by rw [hfl2]; have := putS_len (flat bl) n; omega⟩, hfl2⟩, hb⟩
          rcases mem_insB hb with h | h
          · rw [h, hx2, List.length_drop, hil]; omega
          · rcases List.mem_or_eq_of_mem_set h with h | h
            · exact hg.ne b h
            · rw [h, hx1, List.length_take, hil]; omega
        refine (add_walk S B p q _ a0 n bl w his hg.ok h0' hB hf hp hq hc1 (by omega)).mono ?_
        rintro e w' ⟨rfl, ⟨b', hs, hx⟩, hb⟩
        have hfl := put_flat hg n hn hp hx hc2
        refine ⟨rfl, ⟨_, hs, ⟨by rw [hfl]; exact putS_rise hg.rise n, fun b hb => ?_, by rw [hfl]; have := putS_len (flat bl) n; omega⟩, hfl⟩, hb⟩
        rcases List.mem_or_eq_of_mem_set hb with h | h
        · exact hg.ne b h
        · rw [h, hx, ins_len _ _ _ hq]; omega
      by_cases hlt : findB bl n < bl.length
      · rw [if_pos hlt] at hf
        refine key (findB bl n) (findAt bl n) (findAt bl n) hf hlt ?_ (.inl ⟨hlt, rfl, rfl⟩) (.inl ⟨hlt, rfl, rfl⟩)
        exact List.countP_le_length
      · rw [if_neg hlt] at hf
        exact key (bl.length - 1) _ 0 hf (by omega) (Nat.le_refl _) (.inr ⟨by omega, by omega, rfl⟩) (.inr ⟨by omega, by omega, rfl⟩)

theorem adds_all : AddsUpTo 99999 := fun S B n l w h hB hl => add_any S B n l w h hB (by omega)

set_option maxHeartbeats 400000 in
theorem drop_none (S : Nat) (B : Nat → Prop) (n : Int) (bl : List Blk) (w : World) (hset : SetIs w B S bl) (hg : Good bl) (hn : n ∉ flat bl) :
    Calls Try.prog 23 #[.pointer (some ⟨S, 0, none⟩), .int .i64 n] w fun e w' => e = .returned (.tuple #[]) ∧ Below w.heap.size w w' := by
  have hf : ∃ x1 x2 : Nat, Calls Try.prog 20 #[.pointer (some ⟨S, 0, none⟩), .int .i64 n] w fun e w' => e = .returned (.tuple #[.int .i64 x1, .int .i64 x2, .bool false]) ∧ Below w.heap.size w w' := by
    by_cases h0 : bl.length = 0
    · have : bl = [] := List.length_eq_zero_iff.1 h0
      subst this
      exact ⟨0, 0, find_none S B n w hset hg.ok⟩
    · have hf := find_some S B n bl w hset hg.ok (by omega)
      have hi : (decide (findB bl n < bl.length) && findIn bl n) = false := by
        rw [in_iff hg n]
        cases h : (flat bl).contains n
        · rfl
        · exact absurd (List.contains_iff_mem.1 h) hn
      rw [hi] at hf
      exact ⟨_, _, hf⟩
  obtain ⟨x1, x2, hf⟩ := hf
  have HF := Lib.hid hf
  clear hf hn hg hset
  go_enter Try.func23, Try.ntmps23
  go_wp2_with fail
  refine HF.out.mono ?_
  rintro e w1 ⟨rfl, hb1⟩
  go_wp2
  exact bodyPost_ret (v := .tuple #[]) (by simp [results, Try.results23, go_sem]) rfl ⟨rfl, hb1⟩

theorem delS_sub (l : List Int) (n : Int) : (delS l n).Sublist l := List.filter_sublist

/-- One number less. -/
theorem drop_any (S : Nat) (B : Nat → Prop) (n : Int) (l : List Int) (w : World) (hset : SetOk w B S l) (hB : Bd B w.heap.size) :
    Calls Try.prog 23 #[.pointer (some ⟨S, 0, none⟩), .int .i64 n] w fun e w' => e = .returned (.tuple #[]) ∧ SetOk w' B S (delS l n) ∧ Stay B w w' := by
  obtain ⟨bl, his, hg, rfl⟩ := hset
  by_cases hn : n ∈ flat bl
  · obtain ⟨hp, hq, hd⟩ := del_flat hg n hn
    have hf := find_some S B n bl w his hg.ok (by omega)
    have hi : (decide (findB bl n < bl.length) && findIn bl n) = true := by rw [in_iff hg n, List.contains_iff_mem]; exact hn
    rw [hi, if_pos hp] at hf
    have h0 := (hg.ne _ (getD_mem hp)).1
    refine (drop_found S B (findB bl n) (findAt bl n) ((bl.getD (findB bl n) noBlk).xs.length - 1) n bl w his hg hB hf hp (by omega) (by omega)).mono ?_
    rintro e w' ⟨rfl, hb, bl', h1, h2, h3⟩
    exact ⟨rfl, ⟨bl', h1, h2, by rw [h3, hd]⟩, hb⟩
  · refine (drop_none S B n bl w his hg hn).mono ?_
    rintro e w' ⟨rfl, hb⟩
    rw [delS_none hn]
    exact ⟨rfl, ⟨bl, his.below hb, hg, rfl⟩, stay_of hb hB⟩

def delAll (l : List Int) (ks : List Int) : List Int := ks.foldl delS l
theorem delAll_take (l ks : List Int) (k : Nat) (h : k < ks.length) : delAll l (ks.take (k + 1)) = delS (delAll l (ks.take k)) (ks.getD k 0) := by
  rw [take_one ks k h]; unfold delAll; rw [List.foldl_append]; rfl
theorem delAll_len (l : List Int) (ks : List Int) : (delAll l ks).length ≤ l.length := by
  unfold delAll
  induction ks generalizing l with
  | nil => simp
  | cons k ks ih => exact Nat.le_trans (ih (delS l k)) (delS_sub l k).length_le

set_option maxHeartbeats 400000 in
theorem Drop_any (S : Nat) (B : Nat → Prop) (a : Option Addr) (ks : List Int) (cap : Nat) (l : List Int) (w : World) (hset : SetOk w B S l) (_hB : Bd B w.heap.size) (hk : ks.length ≤ 100000)
    (ha : IntsAt w a ks) (hbelow : 0 < ks.length → ∀ b off, a = some ⟨b, off, none⟩ → B b) :
    Calls Try.prog 15 #[.pointer (some ⟨S, 0, none⟩), .slice a ks.length cap] w fun e w' => e = .returned (.int .i64 (l.length - (delAll l ks).length : Int)) ∧ SetOk w' B S (delAll l ks) ∧ Stay B w w' := by
  obtain ⟨hc, hl1, _, _, hSlt⟩ := hset.cells
  have HA := Lib.hid ha; clear ha
  have HSet := Lib.hid hset; clear hset
  have HBl := Lib.hid hbelow; clear hbelow
  go_enter Try.func15, Try.ntmps15
  go_wp2
  go_loopw [16] (fun i wr => ∃ k : Nat, k ≤ ks.length ∧ i = .int .i64 k ∧ Hid (SetOk wr B S (delAll l (ks.take k))) ∧ Stay B w wr) (fun i _ => ks.length - (intOf i).toNat)
  case atStart => exact ⟨0, Nat.zero_le _, rfl, HSet.out, Stay.refl _ _⟩
  case round =>
    obtain ⟨k, hk2, rfl, hset, hbr⟩ := hrel
    have hsz := hbr.size
    by_cases hlt : k < ks.length
    · obtain ⟨b, off, rfl, hck0⟩ := HA.out.cell hlt
      have hbB := HBl.out (by omega) b off rfl
      have hck := (hbr.cell (p := ⟨b, off + k, none⟩) hbB).trans hck0
      have HT := Lib.hid (delAll_take l ks k hlt)
      obtain ⟨c, hcc⟩ : ∃ c, c = ks.getD k 0 := ⟨_, rfl⟩
      obtain ⟨L, hL⟩ : ∃ L, L = delAll l (ks.take k) := ⟨_, rfl⟩
      rw [← hL] at hset HT
      rw [← hcc] at HT hck
      have HC := Lib.hid (drop_any S B c L wr hset.out (_hB.mono hsz))
      clear hL hcc hck0
      go_wp2_with fail
      refine HC.out.mono ?_
      rintro e w2 ⟨rfl, hs2, hb2⟩
      have HS2 := Lib.hid hs2; clear hs2
      go_wp2
      go_roundw
      case rel => exact ⟨k + 1, by omega, by go_num, by rw [Hid, HT.out]; exact HS2.out, hbr.trans hb2⟩
      case measure => simp [intOf]; omega
    · have hfull : delAll l (ks.take k) = delAll l ks := by rw [List.take_of_length_le (by omega)]
      rw [hfull] at hset
      obtain ⟨hc2, hl2, _, _, _⟩ := hset.out.cells
      have HF := Lib.hid hset.out
      clear hfull
      go_wp2
      go_ret
      exact ⟨rfl, HF.out, hbr⟩
end Go.Proofs.Ytjpllcdjiagjlaa
