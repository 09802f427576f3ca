/-
  A SET IN MEMORY: a struct with a slice of blocks and a count; each block a row of its own. THE CONTRACTS OF nums.last, (*Set).find AND ITS CLOSURE.
-/
import Derived.Test.YtjpllcdjiagjlaaNumsInts
import Derived.Test.YtjpllcdjiagjlaaShelf
import Derived.WalkSpells
import Derived.Deep.QuietTactic
import Derived.BigQuiet
import Derived.Deep.DeepCutAuto
namespace Go.Proofs.Ytjpllcdjiagjlaa
open Go.RowKit

/-- A block: the heap block in which its row lies, the row's capacity, its numbers. -/
structure Blk where
  g : Nat
  cap : Nat
  xs : List Int
def Blk.val (b : Blk) : Value := .slice (some ⟨b.g, 0, none⟩) b.xs.length b.cap
def ints (l : List Int) : List Value := l.map (Value.int .i64)

/-- All blocks of B lie below n. -/
def Bd (B : Nat → Prop) (n : Nat) : Prop := ∀ k, B k → k < n
theorem Bd.mono {B : Nat → Prop} {n m : Nat} (h : Bd B n) (hm : n ≤ m) : Bd B m := fun k hk => Nat.lt_of_lt_of_le (h k hk) hm
theorem Bd.not {B : Nat → Prop} {n g : Nat} (h : Bd B n) (hg : n ≤ g) : ¬ B g := fun e => Nat.not_lt.2 hg (h g e)
theorem not_either {B : Nat → Prop} {n g g' : Nat} (h : ¬ B g) (hB : Bd B n) (e : g' = g ∨ n ≤ g') : ¬ B g' := by
  rcases e with e | e
  · rw [e]; exact h
  · exact hB.not e
/-- The blocks of B stay as they are. -/
structure Stay (B : Nat → Prop) (w w' : World) : Prop where
  os : w'.os = w.os
  tape : w'.tape = w.tape
  output : w'.output = w.output
  size : w.heap.size ≤ w'.heap.size
  block : ∀ k, B k → w'.heap[k]? = w.heap[k]?
theorem Stay.refl (B : Nat → Prop) (w : World) : Stay B w w := ⟨rfl, rfl, rfl, Nat.le_refl _, fun _ _ => rfl⟩
theorem Stay.trans {B : Nat → Prop} {a b c : World} (h : Stay B a b) (k : Stay B b c) : Stay B a c :=
  ⟨k.os.trans h.os, k.tape.trans h.tape, k.output.trans h.output, Nat.le_trans h.size k.size, fun i hi => (k.block i hi).trans (h.block i hi)⟩
theorem stay_of {B : Nat → Prop} {n : Nat} {w w' : World} (h : Below n w w') (hB : Bd B n) : Stay B w w' := ⟨h.os, h.tape, h.output, h.size, fun k hk => h.block k (hB k hk)⟩
theorem Stay.below {n : Nat} {w w' : World} (h : Stay (fun k => k < n) w w') : Below n w w' := ⟨h.os, h.tape, h.output, h.size, fun k hk => h.block k hk⟩
theorem Stay.drew {B : Nat → Prop} {a w : World} (h : Stay B a w) : Stay B a w.drew := ⟨h.os, h.tape, h.output, h.size, h.block⟩
theorem Stay.alloc {B : Nat → Prop} {a w : World} (h : Stay B a w) (hB : Bd B w.heap.size) (o : Obj) : Stay B a (w.alloc o) := h.trans (stay_of ((Below.refl _ _).alloc (Nat.le_refl _) o) hB)
theorem Stay.setCell {B : Nat → Prop} {a w : World} (h : Stay B a w) {p : Addr} (hp : ¬ B p.block) (u : Value) : Stay B a (w.setCell p u) :=
  h.trans ⟨rfl, rfl, rfl, by simp [World.setCell], fun k hk => Below.heap_setCell w p u k (fun e => hp (e ▸ hk))⟩
theorem Stay.grown {B : Nat → Prop} {a w w' : World} {row : Option Nat} (h : Stay B a w) (hg : w.grownBy w' row) (hB : Bd B w.heap.size) (hr : ∀ k, row = some k → ¬ B k) : Stay B a w' :=
  h.trans ⟨hg.os, hg.tape, hg.output, hg.size, fun k hk => hg.block k (hB k hk) (fun e => hr k e.symm hk)⟩
theorem Stay.cell {B : Nat → Prop} {w w' : World} (h : Stay B w w') {p : Addr} (hp : B p.block) : w'.cell? p = w.cell? p := World.cell?_of_block (w := w) (h.block p.block hp)

/-- A set of these blocks at S, all of them different, none of them of B. -/
structure SetIs (w : World) (B : Nat → Prop) (S : Nat) (bl : List Blk) : Prop where
  top : ∃ (v : Value) (n : Int), w.heap[S]? = some (.cells #[v, .int .i64 n] 44 (0, 0)) ∧ w.ownsRow 0 22 1 v bl.length (bl.map Blk.val) ∧
    n = ((bl.map (fun b => b.xs.length)).sum : Nat) ∧ (S :: (v.ownBlock.toList ++ bl.map Blk.g)).Nodup ∧ ∀ g ∈ S :: (v.ownBlock.toList ++ bl.map Blk.g), ¬ B g
  base : ¬ B S
  rows : ∀ b ∈ bl, w.ownsRow 0 3 1 b.val b.xs.length (ints b.xs)

theorem last_any (b : Blk) (w : World) {B : Nat} (hb : w.ownsRow B 3 1 b.val b.xs.length (ints b.xs)) (h0 : 0 < b.xs.length) (hm : b.xs.length ≤ maxLen) :
    Calls Try.prog 18 #[b.val] w fun e w' => e = .returned (.int .i64 (b.xs.getD (b.xs.length - 1) 0)) ∧ w = w' := by
  have hc := hb.cellAt (b.xs.length - 1) (by omega)
  unfold Blk.val
  rw [show (ints b.xs)[b.xs.length - 1]? = some (.int .i64 (b.xs.getD (b.xs.length - 1) 0)) from by
    unfold ints
    rw [List.getElem?_map, List.getD_eq_getElem?_getD, List.getElem?_eq_getElem (by omega)]; rfl] at hc
  unfold maxLen at hm
  obtain ⟨n, hn⟩ : ∃ n, n = b.xs.length := ⟨_, rfl⟩
  obtain ⟨x, hx⟩ : ∃ x, x = b.xs.getD (b.xs.length - 1) 0 := ⟨_, rfl⟩
  rw [← hx] at hc ⊢
  rw [← hn] at h0 hm hc ⊢
  clear hx hn hb
  have e1 : ((n : Int) - 1).toNat = n - 1 := by omega
  have h1 : (1 : Int) ≤ (n : Int) := by omega
  go_enter Try.func18, Try.ntmps18
  go_wp2
  go_ret
  exact ⟨rfl, rfl⟩

def Blk.last (b : Blk) : Int := b.xs.getD (b.xs.length - 1) 0

set_option maxHeartbeats 400000 in
theorem cmp_any (i m C G S B1 B2 : Nat) (n : Int) (b : Blk) (W : World) {B : Nat} (h1 : W.cell? ⟨B1, 0, none⟩ = some (.pointer (some ⟨S, 0, none⟩))) (h2 : W.cell? ⟨B2, 0, none⟩ = some (.int .i64 n))
    (h3 : W.cell? ⟨S, 0, none⟩ = some (.slice (some ⟨G, 0, none⟩) m C)) (him : i < m) (_hm : m ≤ 1000000) (h4 : W.cell? ⟨G, i, none⟩ = some b.val)
    (hb : W.ownsRow B 3 1 b.val b.xs.length (ints b.xs)) (h0 : 0 < b.xs.length) (hx : b.xs.length ≤ maxLen) :
    Calls Try.prog 27 #[.int .i64 i, .pointer (some ⟨B1, 0, none⟩), .pointer (some ⟨B2, 0, none⟩)] W fun e w' => e = .returned (.bool (decide (n ≤ b.last))) ∧ ∃ q, w' = W.drewN q := by
  have HL := Lib.hid fun q => (last_any b (W.drewN q) (B := B) hb h0 hx).mono fun e w' (h : e = _ ∧ _ = w') => (⟨h.1, h.2.symm⟩ : e = _ ∧ w' = _)
  have hi' : (i : Int) < (m : Int) := by omega
  unfold Blk.val at h4
  obtain ⟨x, hxx⟩ : ∃ x, x = b.last := ⟨_, rfl⟩
  have hx2 : b.xs.getD (b.xs.length - 1) 0 = x := hxx.symm
  rw [hx2] at HL
  rw [← hxx]
  unfold Blk.val at HL
  clear hx hxx hx2 hb h0
  go_enter Try.func27, Try.ntmps27
  go_wp2_with fail
  go_quiet ((go_at_call 18; exact Calls.quiet_of_same (HL.out _)))
  go_wp2
  go_ret
  exact ⟨rfl, _, rfl⟩

/-! ### what is there stays there -/
theorem owns_below {w w' : World} {B : Nat} {T : TypeId} {v : Value} {n : Nat} {xs : List Value} (h : w.ownsRow B T 1 v n xs) (hb : Below w.heap.size w w') : w'.ownsRow B T 1 v n xs := by
  obtain ⟨h1, h2⟩ := h
  refine ⟨h1, ?_⟩
  rcases h2 with h2 | ⟨g, cap, cur, hv, hg, hc, hn, hm, hs, ht⟩
  · exact .inl h2
  · refine .inr ⟨g, cap, cur, hv, hg, ?_, hn, hm, hs, ht⟩
    have hlt : g < w.heap.size := by
      rcases Nat.lt_or_ge g w.heap.size with h | h
      · exact h
      · simp [Array.getElem?_eq_none h] at hc
    rw [hb.block g hlt]; exact hc
theorem heap_lt {w : World} {g : Nat} {o : Obj} (h : w.heap[g]? = some o) : g < w.heap.size := by
  rcases Nat.lt_or_ge g w.heap.size with h' | h'
  · exact h'
  · simp [Array.getElem?_eq_none h'] at h
theorem SetIs.below {w w' : World} {B : Nat → Prop} {S : Nat} {bl : List Blk} (h : SetIs w B S bl) (hb : Below w.heap.size w w') : SetIs w' B S bl := by
  obtain ⟨v, n, h1, h2, h3, h4⟩ := h.top
  refine ⟨⟨v, n, ?_, owns_below h2 hb, h3, h4⟩, h.base, fun b hbl => owns_below (h.rows b hbl) hb⟩
  rw [hb.block S (heap_lt h1)]; exact h1

/-! ### which block, and where in it -/
def noBlk : Blk := ⟨0, 0, []⟩
def findB (bl : List Blk) (n : Int) : Nat := (List.range bl.length).countP (fun i => !decide (n ≤ (bl.getD i noBlk).last))
def findAt (bl : List Blk) (n : Int) : Nat := (bl.getD (findB bl n) noBlk).xs.countP (· < n)
def findIn (bl : List Blk) (n : Int) : Bool := (bl.getD (findB bl n) noBlk).xs.contains n
theorem findB_le (bl : List Blk) (n : Int) : findB bl n ≤ bl.length := by
  have := List.countP_le_length (l := List.range bl.length) (p := fun i => !decide (n ≤ (bl.getD i noBlk).last))
  rw [List.length_range] at this
  exact this

/-- Good blocks: none empty, few, each rising, and their last ones too. -/
structure BlOk (bl : List Blk) : Prop where
  ne : ∀ b ∈ bl, 0 < b.xs.length ∧ b.xs.length ≤ 1000
  few : bl.length ≤ 100000
  rise : ∀ b ∈ bl, b.xs.Pairwise (· < ·)
  ends : ∀ i j, i ≤ j → j < bl.length → (bl.getD i noBlk).last ≤ (bl.getD j noBlk).last

theorem getD_mem {bl : List Blk} {i : Nat} (h : i < bl.length) : bl.getD i noBlk ∈ bl := by
  rw [List.getD_eq_getElem?_getD, List.getElem?_eq_getElem h]; exact List.getElem_mem h

/-- The cells of a set: its two fields, the blocks' values. -/
theorem SetIs.cells {w : World} {B : Nat → Prop} {S : Nat} {bl : List Blk} (h : SetIs w B S bl) (h0 : 0 < bl.length) : ∃ (G C : Nat) (n : Int), w.cell? ⟨S, 0, none⟩ = some (.slice (some ⟨G, 0, none⟩) bl.length C) ∧
    w.cell? ⟨S, 1, none⟩ = some (.int .i64 n) ∧ n = ((bl.map (fun b => b.xs.length)).sum : Nat) ∧ (∀ i, i < bl.length → w.cell? ⟨G, i, none⟩ = some (bl.getD i noBlk).val) := by
  obtain ⟨v, n, h1, h2, h3, _⟩ := h.top
  rcases h2.2 with ⟨_, hz⟩ | ⟨G, C, cur, hv, _⟩
  · omega
  · subst hv
    refine ⟨G, C, n, by simp [World.cell?, h1], by simp [World.cell?, h1], h3, fun i hi => ?_⟩
    rw [h2.cellAt i (by omega)]
    rw [List.getElem?_map, List.getD_eq_getElem?_getD, List.getElem?_eq_getElem hi]; rfl
theorem SetIs.empty_cells {w : World} {B : Nat → Prop} {S : Nat} (h : SetIs w B S []) : ∃ (v : Value) (a : Option Addr) (C : Nat), v = .slice a 0 C ∧ w.cell? ⟨S, 0, none⟩ = some v ∧ w.cell? ⟨S, 1, none⟩ = some (.int .i64 0) := by
  obtain ⟨v, n, h1, h2, h3, _⟩ := h.top
  have hn : n = 0 := by simpa using h3
  subst hn
  rcases h2.2 with ⟨hv, _⟩ | ⟨G, C, cur, hv, _⟩
  · exact ⟨v, none, 0, hv, by simp [World.cell?, h1], by simp [World.cell?, h1]⟩
  · exact ⟨v, _, C, hv, by simp [World.cell?, h1], by simp [World.cell?, h1]⟩

/-- sort.Search over the blocks, the closure's two captured variables being the two blocks laid last. -/
theorem search_blocks (S : Nat) (B : Nat → Prop) (n : Int) (bl : List Blk) (w : World) (hset : SetIs w B S bl) (hok : BlOk bl) :
    Calls Try.prog 26 #[.int .i64 bl.length, .func (.func 27) #[] #[.pointer (some ⟨w.heap.size, 0, none⟩), .pointer (some ⟨w.heap.size + 1, 0, none⟩)]]
      ((w.alloc (.cells #[.pointer (some ⟨S, 0, none⟩)] 25)).alloc (.cells #[.int .i64 n] 3)) fun e w' => e = .returned (.int .i64 (findB bl n)) ∧
        Below ((w.alloc (.cells #[.pointer (some ⟨S, 0, none⟩)] 25)).alloc (.cells #[.int .i64 n] 3)).heap.size ((w.alloc (.cells #[.pointer (some ⟨S, 0, none⟩)] 25)).alloc (.cells #[.int .i64 n] 3)) w' := by
  obtain ⟨W0, hW0⟩ : ∃ W0, W0 = ((w.alloc (.cells #[.pointer (some ⟨S, 0, none⟩)] 25)).alloc (.cells #[.int .i64 n] 3)) := ⟨_, rfl⟩
  have hb : Below w.heap.size w W0 := by rw [hW0]; exact ((Below.refl _ _).alloc (Nat.le_refl _) _).alloc (by simp) _
  have hz : W0.heap.size = w.heap.size + 2 := by rw [hW0]; simp
  have c1 : W0.cell? ⟨w.heap.size, 0, none⟩ = some (.pointer (some ⟨S, 0, none⟩)) := by
    rw [hW0, World.cell?_alloc_old _ _ _ (by simp), World.cell?_alloc_at _ _ _ _ rfl]; rfl
  have c2 : W0.cell? ⟨w.heap.size + 1, 0, none⟩ = some (.int .i64 n) := by
    rw [hW0, World.cell?_alloc_at _ _ _ _ (by simp)]; rfl
  rw [← hW0]
  clear hW0
  refine (Any.sort_Search Try.laysO_16 27 #[.pointer (some ⟨w.heap.size, 0, none⟩), .pointer (some ⟨w.heap.size + 1, 0, none⟩)] bl.length (fun i => decide (n ≤ (bl.getD i noBlk).last)) W0 ?_ (by have := hok.few; omega) ?_ ?_).mono ?_
  · exact Go.Proofs.enters_of Try.func27 (by kernel_rfl) rfl
  · intro m os i hi
    have hbw : Below W0.heap.size W0 (Sort.grow (W0.drewN m) os) := below_grown_sl _ _ _ _ (Nat.le_refl _)
    have hset2 := (hset.below hb).below hbw
    obtain ⟨G, C, cnt, hS0, hS1, _, hG⟩ := hset2.cells (by omega)
    have hmem := getD_mem hi
    refine (cmp_any i bl.length C G S w.heap.size (w.heap.size + 1) n (bl.getD i noBlk) _ (B := 0) ?_ ?_ hS0 hi (by have := hok.few; omega) (hG i hi) (hset2.rows _ hmem) (hok.ne _ hmem).1 (by have := (hok.ne _ hmem).2; unfold maxLen; omega)).mono ?_
    · rw [hbw.cell (p := ⟨w.heap.size, 0, none⟩) (by simp; omega)]; exact c1
    · rw [hbw.cell (p := ⟨w.heap.size + 1, 0, none⟩) (by simp; omega)]; exact c2
    · rintro e w' ⟨rfl, q, rfl⟩
      exact ⟨rfl, q, #[], by rw [Sort.grow_empty]⟩
  · intro a b hab hb' ha
    have := hok.ends a b hab hb'
    simp only [decide_eq_true_iff] at ha ⊢
    omega
  · rintro e w' ⟨rfl, q, os, rfl⟩
    exact ⟨rfl, below_grown_sl _ _ _ _ (Nat.le_refl _)⟩

set_option maxHeartbeats 400000 in
theorem find_none (S : Nat) (B : Nat → Prop) (n : Int) (w : World) (hset : SetIs w B S []) (hok : BlOk []) :
    Calls Try.prog 20 #[.pointer (some ⟨S, 0, none⟩), .int .i64 n] w fun e w' => e = .returned (.tuple #[.int .i64 0, .int .i64 0, .bool false]) ∧ Below w.heap.size w w' := by
  have HS := Lib.hid (search_blocks S B n [] w hset hok)
  obtain ⟨v, a, C, rfl, hS0, _⟩ := hset.empty_cells
  have hSlt := cell_lt hS0
  have W2 : Below w.heap.size w ((w.alloc (.cells #[.pointer (some ⟨S, 0, none⟩)] 25)).alloc (.cells #[.int .i64 n] 3)) := ((Below.refl _ _).alloc (Nat.le_refl _) _).alloc (by simp) _
  have hz : ((w.alloc (.cells #[.pointer (some ⟨S, 0, none⟩)] 25)).alloc (.cells #[.int .i64 n] 3)).heap.size = w.heap.size + 2 := by simp
  have c1 : ((w.alloc (.cells #[.pointer (some ⟨S, 0, none⟩)] 25)).alloc (.cells #[.int .i64 n] 3)).cell? ⟨w.heap.size, 0, none⟩ = some (.pointer (some ⟨S, 0, none⟩)) := by
    rw [World.cell?_alloc_old _ _ _ (by simp), World.cell?_alloc_at _ _ _ _ rfl]; rfl
  have HZ := Lib.hid hz; clear hz
  have HC1 := Lib.hid c1; clear c1
  have HW2 := Lib.hid W2; clear W2
  have HS0 := Lib.hid hS0
  go_enter Try.func20, Try.ntmps20
  go_wp2_with fail
  refine HS.out.mono ?_
  rintro e w1 ⟨rfl, hb⟩
  have hc1 : w1.cell? ⟨w.heap.size, 0, none⟩ = some (.pointer (some ⟨S, 0, none⟩)) := by rw [hb.cell (p := ⟨w.heap.size, 0, none⟩) (by rw [HZ.out]; simp)]; exact HC1.out
  have hw1 : Below w.heap.size w w1 := HW2.out.trans (hb.mono HW2.out.size)
  have hs1 : w1.cell? ⟨S, 0, none⟩ = some (.slice a 0 C) := by rw [hw1.cell (p := ⟨S, 0, none⟩) hSlt]; exact HS0.out
  have hf0 : findB [] n = 0 := rfl
  rw [hf0]
  clear hb hf0
  go_wp2
  go_ret3
  exact ⟨rfl, hw1⟩

theorem pairwise_le {l : List Int} (h : l.Pairwise (· < ·)) : l.Pairwise (· ≤ ·) := h.imp (fun h => Int.le_of_lt h)

/-- slices.BinarySearch in one of the blocks. -/
theorem bsearch_blk (b : Blk) (n : Int) (w : World) {B : Nat} (hb : w.ownsRow B 3 1 b.val b.xs.length (ints b.xs)) (hr : b.xs.Pairwise (· < ·)) (hm : b.xs.length ≤ 1000) :
    Calls Try.prog 28 #[.slice (some ⟨b.g, 0, none⟩) b.xs.length b.cap, .int .i64 n] w fun e w' => e = .returned (.tuple #[.int .i64 (b.xs.countP (· < n) : Nat), .bool (b.xs.contains n)]) ∧ ∃ q, w' = w.drewN q := by
  have h := Try.slices_BinarySearch_int b.g 0 b.xs.length b.cap b.xs n w (Nat.le_refl _) (by omega) (fun j hj => by
    have := hb.cellAt j (by omega)
    rw [Nat.zero_add, this]
    unfold ints
    rw [List.getElem?_map, List.getD_eq_getElem?_getD, List.getElem?_eq_getElem hj]; rfl) (by rw [List.take_length]; exact pairwise_le hr)
  rw [List.take_length] at h
  exact h

set_option maxHeartbeats 400000 in
theorem find_some (S : Nat) (B : Nat → Prop) (n : Int) (bl : List Blk) (w : World) (hset : SetIs w B S bl) (hok : BlOk bl) (h0 : 0 < bl.length) :
    Calls Try.prog 20 #[.pointer (some ⟨S, 0, none⟩), .int .i64 n] w fun e w' => e = .returned (.tuple #[.int .i64 (findB bl n), .int .i64 (if findB bl n < bl.length then findAt bl n else 0 : Nat), .bool (decide (findB bl n < bl.length) && findIn bl n)]) ∧ Below w.heap.size w w' := by
  have HS := Lib.hid (search_blocks S B n bl w hset hok)
  obtain ⟨G, C, cnt, hS0, _, _, hG⟩ := hset.cells h0
  have hSlt := cell_lt hS0
  have W2 : Below w.heap.size w ((w.alloc (.cells #[.pointer (some ⟨S, 0, none⟩)] 25)).alloc (.cells #[.int .i64 n] 3)) := ((Below.refl _ _).alloc (Nat.le_refl _) _).alloc (by simp) _
  have hz : ((w.alloc (.cells #[.pointer (some ⟨S, 0, none⟩)] 25)).alloc (.cells #[.int .i64 n] 3)).heap.size = w.heap.size + 2 := by simp
  have c1 : ((w.alloc (.cells #[.pointer (some ⟨S, 0, none⟩)] 25)).alloc (.cells #[.int .i64 n] 3)).cell? ⟨w.heap.size, 0, none⟩ = some (.pointer (some ⟨S, 0, none⟩)) := by
    rw [World.cell?_alloc_old _ _ _ (by simp), World.cell?_alloc_at _ _ _ _ rfl]; rfl
  have c2 : ((w.alloc (.cells #[.pointer (some ⟨S, 0, none⟩)] 25)).alloc (.cells #[.int .i64 n] 3)).cell? ⟨w.heap.size + 1, 0, none⟩ = some (.int .i64 n) := by
    rw [World.cell?_alloc_at _ _ _ _ (by simp)]; rfl
  have HZ := Lib.hid hz; clear hz
  have HC1 := Lib.hid c1; clear c1
  have HC2 := Lib.hid c2; clear c2
  have HW2 := Lib.hid W2; clear W2
  have HS0 := Lib.hid hS0
  have HG := Lib.hid hG; clear hG
  have few := hok.few
  have HOK := Lib.hid hok; clear hok
  have HSet := Lib.hid hset; clear hset
  have hle := findB_le bl n
  obtain ⟨m, hm⟩ : ∃ m, m = bl.length := ⟨_, rfl⟩
  obtain ⟨f, hf⟩ : ∃ f, f = findB bl n := ⟨_, rfl⟩
  have HF := Lib.hid hf
  have HM := Lib.hid hm
  rw [← hm, ← hf] at hle
  rw [← hm] at h0 few hS0 HS0 HS ⊢
  rw [← hf] at HS ⊢
  clear hf hm
  by_cases hfm : f < m
  · have hfm' : (f : Int) < (m : Int) := by omega
    have hne : ((f : Int) == (m : Int)) = false := by rw [beq_eq_false_iff_ne]; omega
    have hgc0 := HG.out f (by rw [← HM.out]; exact hfm)
    have hgl := cell_lt hgc0
    have HGC := Lib.hid hgc0; clear hgc0
    have hmem : bl.getD f noBlk ∈ bl := getD_mem (by rw [← HM.out]; exact hfm)
    have HB := Lib.hid fun W (hW : Below w.heap.size w W) q => bsearch_blk (bl.getD f noBlk) n (W.drewN q) (B := 0) (owns_below (HSet.out.rows _ hmem) (below_drewN hW q)) (HOK.out.rise _ hmem) (HOK.out.ne _ hmem).2
    have hA : findAt bl n = (bl.getD f noBlk).xs.countP (· < n) := by rw [HF.out]; rfl
    have hI : findIn bl n = (bl.getD f noBlk).xs.contains n := by rw [HF.out]; rfl
    rw [if_pos hfm, show (decide (f < m) && findIn bl n) = findIn bl n from by simp [hfm], hA, hI]
    obtain ⟨b, hb⟩ : ∃ b, b = bl.getD f noBlk := ⟨_, rfl⟩
    rw [← hb] at HGC HB ⊢
    clear hb hA hI hmem
    obtain ⟨x1, hx1⟩ : ∃ x1, x1 = b.xs.countP (· < n) := ⟨_, rfl⟩
    obtain ⟨x2, hx2⟩ : ∃ x2, x2 = b.xs.contains n := ⟨_, rfl⟩
    rw [← hx1, ← hx2] at HB ⊢
    clear hx1 hx2
    go_enter Try.func20, Try.ntmps20
    go_wp2_with fail
    refine HS.out.mono ?_
    rintro e w1 ⟨rfl, hb⟩
    have hc1 : w1.cell? ⟨w.heap.size, 0, none⟩ = some (.pointer (some ⟨S, 0, none⟩)) := by rw [hb.cell (p := ⟨w.heap.size, 0, none⟩) (by rw [HZ.out]; simp)]; exact HC1.out
    have hc2 : w1.cell? ⟨w.heap.size + 1, 0, none⟩ = some (.int .i64 n) := by rw [hb.cell (p := ⟨w.heap.size + 1, 0, none⟩) (by rw [HZ.out]; simp)]; exact HC2.out
    have hw1 : Below w.heap.size w w1 := HW2.out.trans (hb.mono HW2.out.size)
    have hs1 : w1.cell? ⟨S, 0, none⟩ = some (.slice (some ⟨G, 0, none⟩) m C) := by rw [hw1.cell (p := ⟨S, 0, none⟩) hSlt]; exact HS0.out
    clear hb
    have hgc : w1.cell? ⟨G, f, none⟩ = some b.val := by
      rw [hw1.cell (p := ⟨G, f, none⟩) hgl]; exact HGC.out
    have HB1 := Lib.hid (HB.out w1 hw1)
    clear HB
    unfold Blk.val at hgc
    go_wp2_with fail
    go_quiet ((go_at_call 28; exact Calls.quiet_of (HB1.out _)))
    go_wp2
    go_ret3
    exact ⟨rfl, below_drewN hw1 _⟩
  · have hfe : f = m := by omega
    subst hfe
    rw [if_neg hfm, show (decide (f < f) && findIn bl n) = false from by simp]
    go_enter Try.func20, Try.ntmps20
    go_wp2_with fail
    refine HS.out.mono ?_
    rintro e w1 ⟨rfl, hb⟩
    have hc1 : w1.cell? ⟨w.heap.size, 0, none⟩ = some (.pointer (some ⟨S, 0, none⟩)) := by rw [hb.cell (p := ⟨w.heap.size, 0, none⟩) (by rw [HZ.out]; simp)]; exact HC1.out
    have hc2 : w1.cell? ⟨w.heap.size + 1, 0, none⟩ = some (.int .i64 n) := by rw [hb.cell (p := ⟨w.heap.size + 1, 0, none⟩) (by rw [HZ.out]; simp)]; exact HC2.out
    have hw1 : Below w.heap.size w w1 := HW2.out.trans (hb.mono HW2.out.size)
    have hs1 : w1.cell? ⟨S, 0, none⟩ = some (.slice (some ⟨G, 0, none⟩) f C) := by rw [hw1.cell (p := ⟨S, 0, none⟩) hSlt]; exact HS0.out
    clear hb
    go_wp2
    go_ret3
    exact ⟨rfl, hw1⟩
end Go.Proofs.Ytjpllcdjiagjlaa
