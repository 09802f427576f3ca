/-
  THE CONTRACTS OF (*Set).add (where no block grows too long), Add, Of.
-/
import Derived.Test.YtjpllcdjiagjlaaSetInsert
import Derived.Deep.RegionHeld3
namespace Go.Proofs.Ytjpllcdjiagjlaa
open Go.RowKit

/-! ### the blocks' numbers alone -/
def xss (bl : List Blk) : List (List Int) := bl.map Blk.xs
def lastL (l : List Int) : Int := l.getD (l.length - 1) 0
def findX (L : List (List Int)) (n : Int) : Nat := (List.range L.length).countP (fun i => !decide (n ≤ lastL (L.getD i [])))
theorem xss_getD (bl : List Blk) (i : Nat) : (xss bl).getD i [] = (bl.getD i noBlk).xs := by
  unfold xss
  rw [List.getD_eq_getElem?_getD, List.getD_eq_getElem?_getD, List.getElem?_map]
  cases bl[i]? <;> rfl
theorem findX_eq (bl : List Blk) (n : Int) : findX (xss bl) n = findB bl n := by
  unfold findX findB
  have hl : (xss bl).length = bl.length := by simp [xss]
  rw [hl]
  congr 1
  funext i
  rw [xss_getD]; rfl
/-- Where a number goes that isn't there: the block, the place in it. -/
def putB (L : List (List Int)) (n : Int) : Nat := if findX L n < L.length then findX L n else L.length - 1
def putAt (L : List (List Int)) (n : Int) : Nat := if findX L n < L.length then (L.getD (findX L n) []).countP (· < n) else (L.getD (L.length - 1) []).length
def isIn (L : List (List Int)) (n : Int) : Bool := decide (findX L n < L.length) && (L.getD (findX L n) []).contains n
/-- The blocks with a number more, none split. -/
def addX (L : List (List Int)) (n : Int) : List (List Int) :=
  if isIn L n then L else if L = [] then [[n]] else L.set (putB L n) (ins (L.getD (putB L n) []) (putAt L n) n)

/-! ### a set whose fields, or one of whose rows, turned -/
theorem SetIs.lens {w : World} {B : Nat → Prop} {S : Nat} {bl : List Blk} (_h : SetIs w B S bl) (hok : BlOk bl) : (bl.map (fun b => b.xs.length)).sum ≤ 100000000 := by
  have h1 := hok.few
  have h2 : ∀ l : List Blk, (∀ b ∈ l, b.xs.length ≤ 1000) → (l.map (fun b => b.xs.length)).sum ≤ 1000 * l.length := by
    intro l
    induction l with
    | nil => intro _; simp
    | cons a l ih =>
      intro h
      have := ih (fun b hb => h b (List.mem_cons_of_mem _ hb))
      have := h a (List.mem_cons_self)
      simp only [List.map_cons, List.sum_cons, List.length_cons]; omega
  have := h2 bl (fun b hb => (hok.ne b hb).2)
  omega

/-- A set with its parts named, whatever its count says. -/
structure SetMid (w : World) (B : Nat → Prop) (S G C : Nat) (cnt : Int) (bl : List Blk) : Prop where
  top : w.heap[S]? = some (.cells #[.slice (some ⟨G, 0, none⟩) bl.length C, .int .i64 cnt] 44 (0, 0))
  blocks : w.ownsRow 0 22 1 (.slice (some ⟨G, 0, none⟩) bl.length C) bl.length (bl.map Blk.val)
  apart : (S :: G :: bl.map Blk.g).Nodup
  base : ∀ g ∈ S :: G :: bl.map Blk.g, ¬ B g
  rows : ∀ b ∈ bl, w.ownsRow 0 3 1 b.val b.xs.length (ints b.xs)

theorem SetIs.mid {w : World} {B : Nat → Prop} {S : Nat} {bl : List Blk} (h : SetIs w B S bl) (h0 : 0 < bl.length) : ∃ G C, SetMid w B S G C ((bl.map (fun b => b.xs.length)).sum : Nat) bl := by
  obtain ⟨v, n, h1, h2, h3, h4⟩ := h.top
  rcases h2.2 with ⟨_, hz⟩ | ⟨G, C, cur, hv, _⟩
  · omega
  · subst hv
    subst h3
    exact ⟨G, C, h1, h2, by simpa [Value.ownBlock] using h4.1, by simpa [Value.ownBlock] using h4.2, h.rows⟩
theorem SetMid.is {w : World} {B : Nat → Prop} {S G C : Nat} {cnt : Int} {bl : List Blk} (h : SetMid w B S G C cnt bl) (hc : cnt = ((bl.map (fun b => b.xs.length)).sum : Nat)) : SetIs w B S bl :=
  ⟨⟨_, cnt, h.top, h.blocks, hc, by simpa [Value.ownBlock] using h.apart, by simpa [Value.ownBlock] using h.base⟩, h.base S (by simp), h.rows⟩
section
variable {w : World} {B : Nat → Prop} {S G C : Nat} {cnt : Int} {bl : List Blk}
theorem SetMid.base0 (h : SetMid w B S G C cnt bl) : ¬ B S := h.base S (by simp)
theorem SetMid.bases (h : SetMid w B S G C cnt bl) : ¬ B G := h.base G (by simp)
theorem SetMid.baseb (h : SetMid w B S G C cnt bl) {b : Blk} (hb : b ∈ bl) : ¬ B b.g := h.base b.g (List.mem_cons_of_mem _ (List.mem_cons_of_mem _ (List.mem_map_of_mem hb)))
end
theorem SetMid.below {w w' : World} {B : Nat → Prop} {S G C : Nat} {cnt : Int} {bl : List Blk} (h : SetMid w B S G C cnt bl) (hb : Below w.heap.size w w') : SetMid w' B S G C cnt bl :=
  ⟨by rw [hb.block S (heap_lt h.top)]; exact h.top, owns_below h.blocks hb, h.apart, h.base, fun b hbl => owns_below (h.rows b hbl) hb⟩
theorem SetMid.s0 {w : World} {B : Nat → Prop} {S G C : Nat} {cnt : Int} {bl : List Blk} (h : SetMid w B S G C cnt bl) : w.cell? ⟨S, 0, none⟩ = some (.slice (some ⟨G, 0, none⟩) bl.length C) := by simp [World.cell?, h.top]
theorem SetMid.s1 {w : World} {B : Nat → Prop} {S G C : Nat} {cnt : Int} {bl : List Blk} (h : SetMid w B S G C cnt bl) : w.cell? ⟨S, 1, none⟩ = some (.int .i64 cnt) := by simp [World.cell?, h.top]
theorem SetMid.sf {w : World} {B : Nat → Prop} {S G C : Nat} {cnt : Int} {bl : List Blk} (h : SetMid w B S G C cnt bl) (j : Nat) : w.frozen? ⟨S, j, none⟩ = false := by simp [World.frozen?, h.top]
theorem SetMid.g0 {w : World} {B : Nat → Prop} {S G C : Nat} {cnt : Int} {bl : List Blk} (h : SetMid w B S G C cnt bl) (i : Nat) (hi : i < bl.length) : w.cell? ⟨G, i, none⟩ = some (bl.getD i noBlk).val := by
  rw [h.blocks.cellAt i (by omega), List.getElem?_map, List.getD_eq_getElem?_getD, List.getElem?_eq_getElem hi]; rfl
theorem SetMid.gf {w : World} {B : Nat → Prop} {S G C : Nat} {cnt : Int} {bl : List Blk} (h : SetMid w B S G C cnt bl) (j : Nat) : w.frozen? ⟨G, j, none⟩ = false := by
  obtain ⟨cur, _, _, _, _, _, _, _, hf⟩ := own_block h.blocks
  exact hf j

/-- A row stays where another block is written. -/
theorem owns_set {w : World} {B : Nat} {T : TypeId} {v : Value} {n : Nat} {xs : List Value} (h : w.ownsRow B T 1 v n xs) (a : Addr) (u : Value) (hne : v.ownBlock ≠ some a.block) : (w.setCell a u).ownsRow B T 1 v n xs := by
  obtain ⟨h1, h2⟩ := h
  refine ⟨h1, ?_⟩
  rcases h2 with h2 | ⟨g, cap, cur, hv, hg, hc, hn, hm, hs, ht⟩
  · exact .inl h2
  · refine .inr ⟨g, cap, cur, hv, hg, ?_, hn, hm, hs, ht⟩
    have hga : g ≠ a.block := fun e => hne (by rw [hv]; simp [Value.ownBlock, e])
    rw [Below.heap_setCell _ _ _ _ hga]; exact hc
theorem SetMid.count {w : World} {B : Nat → Prop} {S G C : Nat} {cnt : Int} {bl : List Blk} (h : SetMid w B S G C cnt bl) (c : Int) : SetMid (w.setCell ⟨S, 1, none⟩ (.int .i64 c)) B S G C c bl := by
  have ha := h.apart
  rw [List.nodup_cons, List.nodup_cons] at ha
  refine ⟨?_, owns_set h.blocks _ _ (by simp [Value.ownBlock]; intro e; exact ha.1 (by rw [e]; simp)), h.apart, h.base, fun b hb => owns_set (h.rows b hb) _ _ ?_⟩
  · simp [World.setCell, Array.getElem?_modify, h.top]
  · simp only [Blk.val, Value.ownBlock]
    intro e
    apply ha.1
    have : b.g = S := by simpa using e
    rw [← this]
    exact List.mem_cons_of_mem _ (List.mem_map_of_mem hb)

theorem set_getD {bl : List Blk} {p : Nat} (hp : p < bl.length) (b : Blk) : (bl.set p b).getD p noBlk = b := by simp [List.getD_eq_getElem?_getD, hp]
theorem nodup_ne {bl : List Blk} (h : (bl.map Blk.g).Nodup) {i j : Nat} (hi : i < bl.length) (hj : j < bl.length) (hne : i ≠ j) : (bl.getD i noBlk).g ≠ (bl.getD j noBlk).g := by
  have hp := List.pairwise_iff_getElem.1 h
  rcases Nat.lt_or_gt_of_ne hne with hlt | hlt
  · have := hp i j (by simpa using hi) (by simpa using hj) hlt
    simpa [List.getD_eq_getElem?_getD, hi, hj] using this
  · have := hp j i (by simpa using hj) (by simpa using hi) hlt
    simpa [List.getD_eq_getElem?_getD, hi, hj] using Ne.symm this
theorem nodup_set {l : List Nat} (h : l.Nodup) (p x : Nat) (hx : x ∉ l) : (l.set p x).Nodup := by
  apply List.pairwise_iff_getElem.2
  intro i j hi hj hij
  rw [List.length_set] at hi hj
  rw [List.getElem_set, List.getElem_set]
  split
  · rw [if_neg (by omega)]
    intro e; exact hx (by rw [e]; exact List.getElem_mem _)
  · split
    · intro e; exact hx (by rw [← e]; exact List.getElem_mem _)
    · exact List.pairwise_iff_getElem.1 h i j hi hj hij
theorem owns_grown {w w' : World} {B : Nat} {T : TypeId} {v : Value} {n : Nat} {xs : List Value} {row : Option Nat} (h : w.ownsRow B T 1 v n xs) (hg : w.grownBy w' row) (hne : v.ownBlock ≠ row ∨ v.ownBlock = none) : w'.ownsRow B T 1 v n xs :=
  h.kept hg (by rcases hne with h | h; exact .inr h; exact .inl h)

/-- A block replaced by what came of it. -/
theorem SetMid.put {w w' : World} {B : Nat → Prop} {S G C : Nat} {cnt : Int} {bl : List Blk} (h : SetMid w B S G C cnt bl) {p : Nat} (hp : p < bl.length) (b' : Blk)
    (hrow : w'.ownsRow 0 3 1 b'.val b'.xs.length (ints b'.xs)) (hg : w.grownBy w' (some (bl.getD p noBlk).g)) (hb' : b'.g = (bl.getD p noBlk).g ∨ w.heap.size ≤ b'.g) (hnb : ¬ B b'.g) :
    SetMid (w'.setCell ⟨G, p, none⟩ b'.val) B S G C cnt (bl.set p b') := by
  have ha := h.apart
  rw [List.nodup_cons, List.nodup_cons] at ha
  obtain ⟨hS, hGn, hnd⟩ := ha
  have hmem : bl.getD p noBlk ∈ bl := getD_mem hp
  have hSlt := heap_lt h.top
  obtain ⟨gcur, hBG, hgG, hgn, hgm, hgs, hgl, hgsome, hgfz⟩ := own_block h.blocks
  have hGlt := heap_lt hgG
  have glt : ∀ b ∈ bl, b.g < w.heap.size := fun b hb => by
    obtain ⟨c, _, hc, _⟩ := own_block (h.rows b hb)
    exact heap_lt hc
  have hSg : S ≠ (bl.getD p noBlk).g := fun e => hS (by rw [e]; exact List.mem_cons_of_mem _ (List.mem_map_of_mem hmem))
  have hGg : G ≠ (bl.getD p noBlk).g := fun e => hGn (by rw [e]; exact List.mem_map_of_mem hmem)
  have hSG : S ≠ G := fun e => hS (by rw [e]; simp)
  have hS' : w'.heap[S]? = w.heap[S]? := hg.block S hSlt (fun e => hSg (by simpa using e))
  have hG' : w'.heap[G]? = w.heap[G]? := hg.block G hGlt (fun e => hGg (by simpa using e))
  have hb'G : b'.g ≠ G := by
    rcases hb' with e | e
    · rw [e]; exact Ne.symm hGg
    · omega
  have hb'S : b'.g ≠ S := by
    rcases hb' with e | e
    · rw [e]; exact Ne.symm hSg
    · omega
  refine ⟨?_, ?_, ?_, fun x hx => ?_, ?_⟩
  · rw [Below.heap_setCell _ _ _ _ (show S ≠ G from hSG), hS', List.length_set]; exact h.top
  · have hgG2 : (w'.setCell ⟨G, p, none⟩ b'.val).heap[G]? = some (.cells (gcur.setIfInBounds p b'.val) 22 (0, 0)) := by
      simp [World.setCell, Array.getElem?_modify, hG', hgG]
    have hl : ((bl.set p b').map Blk.val).length = bl.length := by simp
    have := own_cells (xs := (bl.set p b').map Blk.val) (cap := C) hBG hgG2 (by simpa using hgs) (by omega) hgm (fun j hj => by
      rw [hl] at hj
      have hcw : ∀ k, k < bl.length → w'.cell? ⟨G, k, none⟩ = some (bl.getD k noBlk).val := fun k hk => by
        rw [World.cell?_of_block (w := w) (a := ⟨G, k, none⟩) hG']; exact h.g0 k hk
      by_cases e : p = j
      · subst e
        rw [World.cell?_setCell_same _ _ _ (hcw p hp), List.getElem?_map, List.getElem?_set_self (by omega)]; rfl
      · rw [World.cell?_setCell_other _ _ _ _ (fun e2 => e (by injection e2)), hcw j hj, List.getElem?_map, List.getElem?_set_ne e, List.getD_eq_getElem?_getD, List.getElem?_eq_getElem hj]; rfl)
    rw [hl] at this
    rw [List.length_set]
    exact this
  · have hgs' : (bl.set p b').map Blk.g = (bl.map Blk.g).set p b'.g := by rw [List.map_set]
    rw [List.nodup_cons, List.nodup_cons, hgs']
    rcases hb' with e | e
    · have : (bl.map Blk.g).set p b'.g = bl.map Blk.g := by
        rw [e]
        apply List.ext_getElem (by simp)
        intro i h1 h2
        rw [List.getElem_set]
        split
        · rename_i e2; subst e2
          simp [List.getD_eq_getElem?_getD, hp]
        · rfl
      rw [this]
      exact ⟨hS, hGn, hnd⟩
    · have hnot : b'.g ∉ bl.map Blk.g := fun hm => by
        obtain ⟨b, hb, e2⟩ := List.mem_map.1 hm
        have := glt b hb
        omega
      refine ⟨fun hm => ?_, fun hm => ?_, ?_⟩
      · rcases List.mem_cons.1 hm with e2 | e2
        · exact hSG e2
        · rcases List.mem_or_eq_of_mem_set e2 with e3 | e3
          · exact hS (List.mem_cons_of_mem _ e3)
          · exact hb'S e3.symm
      · rcases List.mem_or_eq_of_mem_set hm with e3 | e3
        · exact hGn e3
        · exact hb'G e3.symm
      · exact nodup_set hnd p b'.g hnot
  · rcases List.mem_cons.1 hx with rfl | hx
    · exact h.base0
    · rcases List.mem_cons.1 hx with rfl | hx
      · exact h.bases
      · obtain ⟨b, hb, rfl⟩ := List.mem_map.1 hx
        rcases List.mem_or_eq_of_mem_set hb with hb | hb
        · exact h.baseb hb
        · rw [hb]; exact hnb
  · intro b hb
    refine owns_set ?_ _ _ (by
      simp only [Blk.val, Value.ownBlock]
      intro e2
      have e3 : b.g = G := by simpa using e2
      rcases List.mem_or_eq_of_mem_set hb with hb1 | hb1
      · exact hGn (by rw [← e3]; exact List.mem_map_of_mem hb1)
      · rw [hb1] at e3; exact hb'G e3)
    obtain ⟨k, hk, e⟩ := List.getElem_of_mem hb
    rw [List.length_set] at hk
    rw [List.getElem_set] at e
    split at e
    · rw [← e]; exact hrow
    · rename_i hne
      have hbk : bl.getD k noBlk = b := by rw [← e]; simp [List.getD_eq_getElem?_getD, hk]
      have hbm : b ∈ bl := by rw [← hbk]; exact getD_mem hk
      refine owns_grown (h.rows b hbm) hg (.inl ?_)
      have := nodup_ne hnd hk hp (Ne.symm hne)
      rw [hbk] at this
      simp only [Blk.val, Value.ownBlock]
      intro e2; exact this (by simpa using e2)
end Go.Proofs.Ytjpllcdjiagjlaa
