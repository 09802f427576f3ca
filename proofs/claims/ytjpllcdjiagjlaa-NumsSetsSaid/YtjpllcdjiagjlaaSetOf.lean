/-
  THE CONTRACTS OF (*Set).add (one number, in short sets), Add, Of.
-/
import Derived.Test.YtjpllcdjiagjlaaSetAddWalk
import Derived.Test.YtjpllcdjiagjlaaSetPure
namespace Go.Proofs.Ytjpllcdjiagjlaa
open Go.RowKit

/-- A set in memory whose numbers are these, rising. -/
def SetOk (w : World) (B : Nat → Prop) (S : Nat) (l : List Int) : Prop := ∃ bl, SetIs w B S bl ∧ Good bl ∧ flat bl = l
theorem SetOk.below {w w' : World} {B : Nat → Prop} {S : Nat} {l : List Int} (h : SetOk w B S l) (hb : Below w.heap.size w w') : SetOk w' B S l := by
  obtain ⟨bl, h1, h2, h3⟩ := h
  exact ⟨bl, h1.below hb, h2, h3⟩

theorem Good.nil : Good [] := ⟨List.Pairwise.nil, (fun b hb => by cases hb), by simp [flat]⟩
theorem Good.one (g c : Nat) (n : Int) : Good [⟨g, c, [n]⟩] := ⟨by simp [flat], (fun b hb => by simp at hb; subst hb; simp), by simp [flat]⟩

theorem add_found (S : Nat) (B : Nat → Prop) (n : Int) (bl : List Blk) (w : World) (hset : SetIs w B S bl) (hg : Good bl) (hn : n ∈ flat bl) :
    Calls Try.prog 22 #[.pointer (some ⟨S, 0, none⟩), .int .i64 n] w fun e w' => e = .returned (.tuple #[]) ∧ Below w.heap.size w w' := by
  have h0 : 0 < bl.length := by
    rcases bl with _ | ⟨b, l⟩
    · simp [flat] at hn
    · simp
  have hf := find_some S B n bl w hset hg.ok h0
  have hi : (decide (findB bl n < bl.length) && findIn bl n) = true := by rw [in_iff hg n, List.contains_iff_mem]; exact hn
  rw [hi] at hf
  obtain ⟨x1, hx1⟩ : ∃ x : Nat, x = findB bl n := ⟨_, rfl⟩
  obtain ⟨x2, hx2⟩ : ∃ x : Nat, x = (if findB bl n < bl.length then findAt bl n else 0 : Nat) := ⟨_, rfl⟩
  rw [← hx2, ← hx1] at hf
  have HF := Lib.hid hf
  clear hf hi hx1 hx2 hn hg hset h0
  go_enter Try.func22, Try.ntmps22
  go_wp2_with fail
  refine HF.out.mono ?_
  rintro e w1 ⟨rfl, hb1⟩
  go_wp2
  exact bodyPost_ret (v := .tuple #[]) (by simp [results, Try.results22, go_sem]) rfl ⟨rfl, hb1⟩

theorem first_is {w1 : World} {B : Nat → Prop} {S : Nat} (n : Int) (hset : SetIs w1 B S []) (hB : Bd B w1.heap.size) :
    SetIs ((((w1.setCell ⟨S, 1, none⟩ (.int .i64 1)).setCell ⟨S, 0, none⟩ (.slice (some ⟨w1.heap.size + 1, 0, none⟩) 1 1)).alloc (.cells #[.int .i64 n] 3)).alloc (.cells #[.slice (some ⟨w1.heap.size, 0, none⟩) 1 1] 22)) B S [⟨w1.heap.size, 1, [n]⟩] := by
  obtain ⟨v, c, h1, _, _, _⟩ := hset.top
  have hlt := heap_lt h1
  obtain ⟨W, hW⟩ : ∃ W, W = (w1.setCell ⟨S, 1, none⟩ (.int .i64 1)).setCell ⟨S, 0, none⟩ (.slice (some ⟨w1.heap.size + 1, 0, none⟩) 1 1) := ⟨_, rfl⟩
  have hz : W.heap.size = w1.heap.size := by rw [hW]; simp [World.setCell]
  have hS : W.heap[S]? = some (.cells #[.slice (some ⟨w1.heap.size + 1, 0, none⟩) 1 1, .int .i64 1] 44 (0, 0)) := by
    rw [hW]; simp [World.setCell, Array.getElem?_modify, h1]
  rw [← hW, ← hz]
  obtain ⟨W2, hW2⟩ : ∃ W2, W2 = (W.alloc (.cells #[.int .i64 n] 3)).alloc (.cells #[.slice (some ⟨W.heap.size, 0, none⟩) 1 1] 22) := ⟨_, rfl⟩
  have b1 : Below W.heap.size W W2 := by rw [hW2]; exact ((Below.refl _ _).alloc (Nat.le_refl _) _).alloc (by simp) _
  have g0 : W2.heap[W.heap.size]? = some (.cells #[.int .i64 n] 3 (0, 0)) := by
    rw [hW2]
    show ((W.heap.push _).push _)[W.heap.size]? = _
    rw [Array.getElem?_push, if_neg (by simp), Array.getElem?_push, if_pos rfl]
  have g1 : W2.heap[W.heap.size + 1]? = some (.cells #[.slice (some ⟨W.heap.size, 0, none⟩) 1 1] 22 (0, 0)) := by
    rw [hW2]
    show ((W.heap.push _).push _)[W.heap.size + 1]? = _
    rw [Array.getElem?_push, if_pos (by simp)]
  rw [← hW2]
  refine ⟨⟨.slice (some ⟨W.heap.size + 1, 0, none⟩) 1 1, 1, ?_, ?_, by simp, ?_, ?_⟩, hset.base, ?_⟩
  · rw [b1.block S (by omega), hS, hz]
  · exact own_cells (xs := [Blk.val ⟨W.heap.size, 1, [n]⟩]) (by omega) g1 rfl (by simp) (by decide) (fun j hj => by
      have : j = 0 := by simpa using hj
      subst this
      simp [World.cell?, g1, Blk.val])
  · simp [Value.ownBlock]; omega
  · intro x hx
    have hx : x = S ∨ x = W.heap.size + 1 ∨ x = W.heap.size := by simpa [Value.ownBlock] using hx
    rcases hx with e | e | e
    · rw [e]; exact hset.base
    · exact hB.not (by omega)
    · exact hB.not (by omega)
  · intro b hb
    have : b = ⟨W.heap.size, 1, [n]⟩ := by simpa using hb
    subst this
    show W2.ownsRow 0 3 1 (.slice (some ⟨W.heap.size, 0, none⟩) 1 1) 1 (ints [n])
    exact own_cells (xs := ints [n]) (cap := 1) (by omega) g0 rfl (by simp [ints]) (by decide) (fun j hj => by
      have : j = 0 := by simpa [ints] using hj
      subst this
      simp [World.cell?, g0, ints])

set_option maxHeartbeats 400000 in
theorem add_first (S : Nat) (B : Nat → Prop) (n : Int) (w : World) (hset : SetIs w B S []) (hB : Bd B w.heap.size) :
    Calls Try.prog 22 #[.pointer (some ⟨S, 0, none⟩), .int .i64 n] w fun e w' => e = .returned (.tuple #[]) ∧ SetOk w' B S [n] ∧ Stay B w w' := by
  have HF := Lib.hid (find_none S B n w hset Good.nil.ok)
  have HSet := Lib.hid hset; clear hset
  go_enter Try.func22, Try.ntmps22
  go_wp2_with fail
  refine HF.out.mono ?_
  rintro e w1 ⟨rfl, hb1⟩
  obtain ⟨v, a, C, rfl, hs0, hs1⟩ := (HSet.out.below hb1).empty_cells
  have hlt := cell_lt hs0
  have hsf : ∀ j, w1.frozen? ⟨S, j, none⟩ = false := fun j => by
    obtain ⟨v, n, h1, _⟩ := (HSet.out.below hb1).top
    simp [World.frozen?, h1]
  have hf0 := hsf 0
  have hf1 := hsf 1
  have nS := World.new_ne w1 _ hs0
  clear hsf
  have HB1 := Lib.hid hb1
  go_wp2
  have hsz := HB1.out.size
  refine bodyPost_ret (v := .tuple #[]) (by simp [results, Try.results22, go_sem]) rfl ⟨rfl, ⟨_, first_is n (HSet.out.below HB1.out) (hB.mono HB1.out.size), Good.one _ _ _, rfl⟩, ?_⟩
  exact ((((stay_of HB1.out hB).setCell HSet.out.base _).setCell HSet.out.base _).alloc (hB.mono (by simp [World.setCell]; omega)) _).alloc (hB.mono (by simp [World.setCell]; omega)) _

/-- One number more, in a set that stays short of a block. -/
theorem add_short (S : Nat) (B : Nat → Prop) (n : Int) (l : List Int) (w : World) (hset : SetOk w B S l) (hB : Bd B w.heap.size) (hl : l.length + 1 ≤ 256) :
    Calls Try.prog 22 #[.pointer (some ⟨S, 0, none⟩), .int .i64 n] w fun e w' => e = .returned (.tuple #[]) ∧ SetOk w' B S (putS l n) ∧ Stay B w w' := by
  obtain ⟨bl, his, hg, rfl⟩ := hset
  by_cases hn : n ∈ flat bl
  · refine (add_found S B n bl w his hg hn).mono ?_
    rintro e w' ⟨rfl, hb⟩
    rw [putS_mem hg.rise hn]
    exact ⟨rfl, ⟨bl, his.below hb, hg, rfl⟩, stay_of hb hB⟩
  · by_cases h0 : bl.length = 0
    · have : bl = [] := List.length_eq_zero_iff.1 h0
      subst this
      refine (add_first S B n w his hB).mono ?_
      rintro e w' ⟨rfl, hs, hb⟩
      exact ⟨rfl, hs, hb⟩
    · have h0' : 0 < bl.length := by omega
      have hf := find_some S B n bl w his hg.ok h0'
      have hi : (decide (findB bl n < bl.length) && findIn bl n) = false := by
        rw [in_iff hg n]
        cases h : (flat bl).contains n
        · rfl
        · exact absurd (List.contains_iff_mem.1 h) hn
      rw [hi] at hf
      have hle := findB_le bl n
      have key : ∀ p q a0 : Nat, Calls Try.prog 20 #[.pointer (some ⟨S, 0, none⟩), .int .i64 n] w (fun e w' => e = .returned (.tuple #[.int .i64 (findB bl n), .int .i64 a0, .bool false]) ∧ Below w.heap.size w w') →
          (hp : p < bl.length) → q ≤ (bl.getD p noBlk).xs.length →
          ((findB bl n < bl.length ∧ p = findB bl n ∧ q = a0) ∨ (findB bl n = bl.length ∧ p + 1 = bl.length ∧ q = (bl.getD p noBlk).xs.length)) →
          ((findB bl n < bl.length ∧ p = findB bl n ∧ q = (bl.getD p noBlk).xs.countP (· < n)) ∨ (findB bl n = bl.length ∧ p + 1 = bl.length ∧ q = (bl.getD p noBlk).xs.length)) →
          Calls Try.prog 22 #[.pointer (some ⟨S, 0, none⟩), .int .i64 n] w fun e w' => e = .returned (.tuple #[]) ∧ SetOk w' B S (putS (flat bl) n) ∧ Stay B w w' := by
        intro p q a0 hf hp hq hc1 hc2
        have hlp : (bl.getD p noBlk).xs.length ≤ (flat bl).length := by
          rw [flat_split bl p hp, List.length_append, List.length_append]; omega
        refine (add_walk S B p q _ a0 n bl w his hg.ok h0' hB hf hp hq hc1 (by omega)).mono ?_
        rintro e w' ⟨rfl, ⟨b', hs, hx⟩, hb⟩
        have hfl := put_flat hg n hn hp hx hc2
        refine ⟨rfl, ⟨_, hs, ⟨by rw [hfl]; exact putS_rise hg.rise n, fun b hb => ?_, by rw [hfl]; have := putS_len (flat bl) n; omega⟩, hfl⟩, hb⟩
        rcases List.mem_or_eq_of_mem_set hb with h | h
        · exact hg.ne b h
        · rw [h, hx, ins_len _ _ _ hq]; omega
      by_cases hlt : findB bl n < bl.length
      · rw [if_pos hlt] at hf
        refine key (findB bl n) (findAt bl n) (findAt bl n) hf hlt ?_ (.inl ⟨hlt, rfl, rfl⟩) (.inl ⟨hlt, rfl, rfl⟩)
        exact List.countP_le_length
      · rw [if_neg hlt] at hf
        exact key (bl.length - 1) _ 0 hf (by omega) (Nat.le_refl _) (.inr ⟨by omega, by omega, rfl⟩) (.inr ⟨by omega, by omega, rfl⟩)

theorem SetOk.cells {w : World} {B : Nat → Prop} {S : Nat} {l : List Int} (h : SetOk w B S l) : w.cell? ⟨S, 1, none⟩ = some (.int .i64 l.length) ∧ l.length ≤ 100000 ∧ l.Pairwise (· < ·) ∧ ¬ B S ∧ S < w.heap.size := by
  obtain ⟨bl, his, hg, rfl⟩ := h
  obtain ⟨v, n, h1, _, h3, _⟩ := his.top
  refine ⟨?_, hg.few, hg.rise, his.base, heap_lt h1⟩
  rw [flat_len]
  simp [World.cell?, h1, h3]

def putAll (l : List Int) (ks : List Int) : List Int := ks.foldl putS l
theorem putAll_len (l : List Int) (ks : List Int) : (putAll l ks).length ≤ l.length + ks.length := by
  unfold putAll
  induction ks generalizing l with
  | nil => simp
  | cons k ks ih =>
    have := ih (putS l k)
    have := putS_len l k
    rw [List.foldl_cons, List.length_cons]; omega
theorem putAll_take (l ks : List Int) (k : Nat) (h : k < ks.length) : putAll l (ks.take (k + 1)) = putS (putAll l (ks.take k)) (ks.getD k 0) := by
  rw [take_one ks k h]; unfold putAll; rw [List.foldl_append]; rfl

/-- What one number more does, as the loops over numbers want it: in sets of at most m numbers ahead. -/
def AddsUpTo (m : Nat) : Prop := ∀ (S : Nat) (B : Nat → Prop) (n : Int) (l : List Int) (w : World), SetOk w B S l → Bd B w.heap.size → l.length ≤ m →
  Calls Try.prog 22 #[.pointer (some ⟨S, 0, none⟩), .int .i64 n] w fun e w' => e = .returned (.tuple #[]) ∧ SetOk w' B S (putS l n) ∧ Stay B w w'
theorem adds_255 : AddsUpTo 255 := fun S B n l w h hB hl => add_short S B n l w h hB (by omega)

set_option maxHeartbeats 400000 in
theorem Add_any (m : Nat) (hadd : AddsUpTo m) (S : Nat) (B : Nat → Prop) (a : Option Addr) (ks : List Int) (cap : Nat) (l : List Int) (w : World) (hset : SetOk w B S l) (_hB : Bd B w.heap.size) (hl : l.length + ks.length ≤ m) (hk : ks.length ≤ 100000)
    (ha : IntsAt w a ks) (hbelow : 0 < ks.length → ∀ b off, a = some ⟨b, off, none⟩ → B b) :
    Calls Try.prog 14 #[.pointer (some ⟨S, 0, none⟩), .slice a ks.length cap] w fun e w' => e = .returned (.int .i64 ((putAll l ks).length - l.length : Int)) ∧ SetOk w' B S (putAll l ks) ∧ Stay B w w' := by
  obtain ⟨hc, hl1, _, _, hSlt⟩ := hset.cells
  have HA := Lib.hid ha; clear ha
  have HADD := Lib.hid hadd; clear hadd
  have HSet := Lib.hid hset; clear hset
  have HBl := Lib.hid hbelow; clear hbelow
  go_enter Try.func14, Try.ntmps14
  go_wp2
  go_loopw [16] (fun i wr => ∃ k : Nat, k ≤ ks.length ∧ i = .int .i64 k ∧ Hid (SetOk wr B S (putAll l (ks.take k))) ∧ Stay B w wr) (fun i _ => ks.length - (intOf i).toNat)
  case atStart => exact ⟨0, Nat.zero_le _, rfl, HSet.out, Stay.refl _ _⟩
  case round =>
    obtain ⟨k, hk2, rfl, hset, hbr⟩ := hrel
    have hsz := hbr.size
    by_cases hlt : k < ks.length
    · obtain ⟨b, off, rfl, hck0⟩ := HA.out.cell hlt
      have hbB := HBl.out (by omega) b off rfl
      have hck := (hbr.cell (p := ⟨b, off + k, none⟩) hbB).trans hck0
      have hlen := putAll_len l (ks.take k)
      have hlen2 : (ks.take k).length ≤ k := List.length_take_le _ _
      have HT := Lib.hid (putAll_take l ks k hlt)
      obtain ⟨c, hcc⟩ : ∃ c, c = ks.getD k 0 := ⟨_, rfl⟩
      obtain ⟨L, hL⟩ : ∃ L, L = putAll l (ks.take k) := ⟨_, rfl⟩
      rw [← hL] at hset HT hlen
      rw [← hcc] at HT hck
      have HC := Lib.hid (HADD.out S B c L wr hset.out (_hB.mono hsz) (by omega))
      clear hL hcc hck0
      go_wp2_with fail
      refine HC.out.mono ?_
      rintro e w2 ⟨rfl, hs2, hb2⟩
      have HS2 := Lib.hid hs2; clear hs2
      go_wp2
      go_roundw
      case rel => exact ⟨k + 1, by omega, by go_num, by rw [Hid, HT.out]; exact HS2.out, hbr.trans hb2⟩
      case measure => simp [intOf]; omega
    · have hfull : putAll l (ks.take k) = putAll l ks := by rw [List.take_of_length_le (by omega)]
      rw [hfull] at hset
      obtain ⟨hc2, hl2, _, _, _⟩ := hset.out.cells
      have HF := Lib.hid hset.out
      clear hfull
      go_wp2
      go_ret
      exact ⟨rfl, HF.out, hbr⟩

set_option maxHeartbeats 400000 in
theorem of_any (m : Nat) (hadd : AddsUpTo m) (a : Option Addr) (ks : List Int) (cap : Nat) (w : World) (hl : ks.length ≤ m) (hk : ks.length ≤ 100000) (ha : IntsAt w a ks) (hab : 0 < ks.length → ∀ b off, a = some ⟨b, off, none⟩ → b < w.heap.size) :
    Calls Try.prog 5 #[.slice a ks.length cap] w fun e w' => ∃ S, e = .returned (.pointer (some ⟨S, 0, none⟩)) ∧ SetOk w' (fun k => k < w.heap.size) S (putAll [] ks) ∧ Below w.heap.size w w' := by
  have hb : Below w.heap.size w (w.alloc (.cells #[.slice none 0 0, .int .i64 0] 44)) := (Below.refl _ _).alloc (Nat.le_refl _) _
  have hset : SetIs (w.alloc (.cells #[.slice none 0 0, .int .i64 0] 44)) (fun k => k < w.heap.size) w.heap.size [] := by
    refine ⟨⟨.slice none 0 0, 0, ?_, World.ownsRow_nil _ _ _ _, by simp, by simp [Value.ownBlock], by simp [Value.ownBlock]⟩, by simp, fun b hb => by cases hb⟩
    show (w.heap.push _)[w.heap.size]? = _
    simp
  have HC := Lib.hid (Add_any m hadd w.heap.size (fun k => k < w.heap.size) a ks cap [] (w.alloc (.cells #[.slice none 0 0, .int .i64 0] 44)) ⟨[], hset, Good.nil, rfl⟩ (fun k hk => Nat.lt_of_lt_of_le hk hb.size) (by simpa using hl) hk (ha.below hb) hab)
  clear ha hab hset
  go_enter Try.func5, Try.ntmps5
  go_wp2_with fail
  refine HC.out.mono ?_
  rintro e w2 ⟨rfl, hs2, hb2⟩
  have HS2 := Lib.hid hs2; clear hs2
  go_wp2
  go_ret
  exact ⟨_, rfl, HS2.out, hb.trans hb2.below⟩
end Go.Proofs.Ytjpllcdjiagjlaa
