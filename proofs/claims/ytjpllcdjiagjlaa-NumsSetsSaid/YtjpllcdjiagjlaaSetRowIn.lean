/-
  slices.Insert INTO A ROW OF BLOCKS OF THE CALL's OWN: one contract of its four ways.
-/
import Derived.Test.YtjpllcdjiagjlaaSetRow
namespace Go.Proofs.Ytjpllcdjiagjlaa
open Go.RowKit Go.Shelf Go.Lib

def insV (l : List Value) (i : Nat) (x : Value) : List Value := l.take i ++ x :: l.drop i
theorem insV_len (l : List Value) (i : Nat) (x : Value) (h : i ≤ l.length) : (insV l i x).length = l.length + 1 := by simp [insV]; omega
theorem insV_get (l : List Value) (i : Nat) (x : Value) (h : i ≤ l.length) (j : Nat) : (insV l i x)[j]? = if j < i then l[j]? else if j = i then some x else l[j - 1]? := by
  unfold insV
  have ht : (l.take i).length = i := by rw [List.length_take]; omega
  split
  · rename_i hj
    rw [List.getElem?_append_left (by omega), List.getElem?_take, if_pos hj]
  · rename_i hj
    rw [List.getElem?_append_right (by omega), ht]
    split
    · rename_i e
      subst e; simp
    · rename_i e
      rw [show j - i = (j - 1 - i) + 1 from by omega, List.getElem?_cons_succ, List.getElem?_drop]
      rw [show i + (j - 1 - i) = j - 1 from by omega]

/-- What comes back: the row with what it holds then, in its block or a new one; nothing else turned. -/
def RowPost (W : World) (B g : Nat) (cs : List Value) (e : Ending) (w' : World) : Prop :=
  ∃ g' cap', e = .returned (.slice (some ⟨g', 0, none⟩) cs.length cap') ∧ w'.ownsRow B 22 1 (.slice (some ⟨g', 0, none⟩) cs.length cap') cs.length cs ∧ W.grownBy w' (some g) ∧ (g' = g ∨ W.heap.size ≤ g') ∧ g' < w'.heap.size

/-- A row whose cells were written one by one. -/
theorem row_of_cells {w' : World} {B g cap n : Nat} {cs : List Value} {i : Nat} {x : Value} (hBg : B ≤ g) (hcur : ∃ cur', w'.heap[g]? = some (.cells cur' 22 (0, 0)) ∧ cur'.size = cap) (hroom : n + 1 ≤ cap) (hm : cap ≤ maxLen) (hl : cs.length = n) (hi : i ≤ n)
    (h : ∀ j, j < n + 1 → w'.cell? ⟨g, j, none⟩ = if j < i then cs[j]? else if j = i then some x else cs[j - 1]?) :
    w'.ownsRow B 22 1 (.slice (some ⟨g, 0, none⟩) (insV cs i x).length cap) (insV cs i x).length (insV cs i x) := by
  have hil := insV_len cs i x (by omega)
  obtain ⟨cur', h2, h3⟩ := hcur
  exact own_cells (xs := insV cs i x) hBg h2 h3 (by omega) hm (fun j hj => by rw [insV_get _ _ _ (by omega)]; exact h j (by omega))

theorem rowIns_any (g cap n i vb B : Nat) (x : Value) (cs : List Value) (W : World) (hb : W.ownsRow B 22 1 (.slice (some ⟨g, 0, none⟩) n cap) n cs) (hi : i ≤ n) (hn : n ≤ 100000)
    (hv : W.heap[vb]? = some (.cells #[x] 22 (0, 0))) (hne : vb ≠ g) (h1c : ∀ v ∈ cs, v.oneCell' = true) (h1 : x.oneCell' = true) :
    Calls Try.prog 38 #[.slice (some ⟨g, 0, none⟩) n cap, .int .i64 i, .slice (some ⟨vb, 0, none⟩) 1 1] W (RowPost W B g (insV cs i x)) := by
  obtain ⟨cur, hBg, hg, hnc, hm, hs, hl, hsome, hfz⟩ := own_block hb
  have hglt := heap_lt hg
  have hil := insV_len cs i x (by omega)
  have hvc : W.cell? ⟨vb, 0, none⟩ = some x := by simp [World.cell?, hv]
  have hcs : ∀ j v, cs[j]? = some v → W.cell? ⟨g, j, none⟩ = some v := fun j v hj => by
    have := (List.getElem?_eq_some_iff.1 hj).1
    rw [hb.cellAt j (by omega), hj]
  have hcell : ∀ j, j < n → W.cell? ⟨g, j, none⟩ = cs[j]? := fun j hj => hb.cellAt j (by omega)
  by_cases hroom : n + 1 ≤ cap
  · by_cases hlt : i < n
    · refine (rowIns_shift g n cap i vb x cs W hlt hroom hm hne hl hcs (fun j hj => hsome j (by omega)) hfz hv ⟨cap, by simp [World.shape?, hg, hs], by omega⟩ h1c h1).mono ?_
      rintro e w' ⟨rfl, rfl⟩
      obtain ⟨c1, hc1, hs1⟩ := setCells_row g (cs.drop i) (i + 1) W.drew cur 22 (0, 0) hg
      obtain ⟨c2, hc2, hs2⟩ := setCells_row g [x] i _ c1 22 (0, 0) hc1
      have hdl : (cs.drop i).length = n - i := by rw [List.length_drop, hl]
      refine ⟨g, cap, by rw [hil, hl], row_of_cells hBg ⟨c2, hc2, by omega⟩ hroom hm hl hi (fun j hj => ?_), grown_trans (grown_drew W _) (grown_trans (setCells_grown _ _ _ _) (setCells_grown _ _ _ _)), .inl rfl, heap_lt hc2⟩
      by_cases e1 : j = i
      · subst e1
        rw [if_neg (by omega), if_pos rfl]
        have := World.cell?_setCells_in g [x] j (W.drew.setCells g (j + 1) (cs.drop j)) (fun k hk => by
          have hk0 : k = 0 := by simpa using hk
          subst hk0
          rw [World.cell?_setCells_out _ _ _ _ _ (fun _ _ => .inl (by simp))]
          exact hsome (j + 0) (by omega)) 0 (by simp)
        simpa using this
      · rw [World.cell?_setCells_out _ _ _ _ _ (fun _ _ => by simp; omega)]
        split
        · rw [World.cell?_setCells_out _ _ _ _ _ (fun _ _ => .inl (by simp; omega))]
          exact hcell j (by omega)
        · have := World.cell?_setCells_in g (cs.drop i) (i + 1) W.drew (fun k hk => hsome (i + 1 + k) (by omega)) (j - i - 1) (by omega)
          rw [show i + 1 + (j - i - 1) = j from by omega] at this
          rw [this, List.getElem_drop, ← List.getElem?_eq_getElem]
          congr 1; omega
    · have hie : i = n := by omega
      subst hie
      refine (rowIns_room g i cap vb x W hroom hm (hsome i (by omega)) (hfz i) hvc h1).mono ?_
      rintro e w' ⟨rfl, rfl⟩
      obtain ⟨c2, hc2, hs2⟩ := setCells_row g [x] i W cur 22 (0, 0) hg
      refine ⟨g, cap, by rw [hil, hl], row_of_cells hBg ⟨c2, hc2, by omega⟩ hroom hm hl hi (fun j hj => ?_), setCells_grown _ _ _ _, .inl rfl, heap_lt hc2⟩
      by_cases e1 : j = i
      · subst e1
        rw [if_neg (by omega), if_pos rfl]
        have := World.cell?_setCells_in g [x] j W (fun k hk => by
          have hk0 : k = 0 := by simpa using hk
          subst hk0
          exact hsome (j + 0) (by omega)) 0 (by simp)
        simpa using this
      · rw [World.cell?_setCells_out _ _ _ _ _ (fun _ _ => .inl (by simp; omega)), if_pos (by omega)]
        exact hcell j (by omega)
  · by_cases hlt : i < n
    · refine (rowIns_grow g n cap i vb x cs W hlt hnc (by omega) hn hl hcs hvc h1c h1).mono ?_
      rintro e w' ⟨C, G, rfl, rfl, hCs, hCn, hCm, hCg⟩
      have hA : (W.alloc (.cells C 22)).heap[W.heap.size]? = some (.cells C 22 (0, 0)) := by
        show (W.heap.push _)[W.heap.size]? = _
        simp
      have hcA : ∀ j, (W.alloc (.cells C 22)).cell? ⟨W.heap.size, j, none⟩ = C[j]? := fun j => by unfold World.cell?; rw [hA]; simp
      obtain ⟨c1, hc1, hs1⟩ := setCells_row W.heap.size [x] i (W.alloc (.cells C 22)).drew C 22 (0, 0) hA
      obtain ⟨c2, hc2, hs2⟩ := setCells_row W.heap.size (cs.drop i) (i + 1) ((W.alloc (.cells C 22)).drew.setCells W.heap.size i [x]).drew c1 22 (0, 0) hc1
      have hdl : (cs.drop i).length = n - i := by rw [List.length_drop, hl]
      refine ⟨W.heap.size, G, by rw [hil, hl], row_of_cells (by omega) ⟨c2, hc2, by omega⟩ hCn hCm hl hi (fun j hj => ?_), ?_, .inr (Nat.le_refl _), heap_lt hc2⟩
      · by_cases e1 : j ≤ i
        · rw [World.cell?_setCells_out _ _ _ _ _ (fun _ _ => .inl (by simp; omega))]
          by_cases e2 : j = i
          · subst e2
            have := World.cell?_setCells_in W.heap.size [x] j (W.alloc (.cells C 22)).drew (fun k hk => by
              have hk0 : k = 0 := by simpa using hk
              subst hk0
              show ((W.alloc (.cells C 22)).cell? ⟨W.heap.size, j + 0, none⟩).isSome = true
              rw [hcA]; simp; omega) 0 (by simp)
            rw [if_neg (by omega), if_pos rfl]
            simpa using this
          · rw [if_pos (by omega)]
            show ((W.alloc (.cells C 22)).drew.setCells W.heap.size i [x]).cell? ⟨W.heap.size, j, none⟩ = _
            rw [World.cell?_setCells_out _ _ _ _ _ (fun _ _ => .inl (by simp; omega))]
            exact (hcA j).trans (hCg j (by omega))
        · rw [if_neg (by omega), if_neg (by omega)]
          have := World.cell?_setCells_in W.heap.size (cs.drop i) (i + 1) ((W.alloc (.cells C 22)).drew.setCells W.heap.size i [x]).drew (fun k hk => by
            show (((W.alloc (.cells C 22)).drew.setCells W.heap.size i [x]).cell? ⟨W.heap.size, i + 1 + k, none⟩).isSome = true
            rw [World.cell?_setCells_out _ _ _ _ _ (fun _ _ => .inr (by simp))]
            show ((W.alloc (.cells C 22)).cell? ⟨W.heap.size, i + 1 + k, none⟩).isSome = true
            rw [hcA]; simp; omega) (j - i - 1) (by omega)
          rw [show i + 1 + (j - i - 1) = j from by omega] at this
          rw [this, List.getElem_drop, ← List.getElem?_eq_getElem]
          congr 1; omega
      · have hz1 : (W.alloc (.cells C 22)).drew.heap.size = W.heap.size + 1 := by show (W.alloc _).heap.size = _; simp
        refine grown_below _ (below_setCells (Below.drew (below_setCells (Below.drew ((Below.refl _ W).alloc (Nat.le_refl _) _)) (by omega) (Nat.le_refl _) _ _)) ?_ (Nat.le_refl _) _ _)
        have := (setCells_grown W.heap.size [x] i (W.alloc (.cells C 22)).drew).size
        exact Nat.le_trans (by omega) this
    · have hie : i = n := by omega
      subst hie
      refine (rowIns_more g i cap vb x cs W hnc (by omega) hn hl hcs hvc h1).mono ?_
      rintro e w' ⟨rfl, rfl⟩
      have hge := grownCap_ge W (i + 1) cap 22
      have hgm := grownCap_le_maxLen W (i + 1) cap 22 (by unfold maxLen; omega)
      obtain ⟨G, hG⟩ : ∃ G, G = grownCap W (i + 1) cap 22 := ⟨_, rfl⟩
      rw [← hG] at hge hgm ⊢
      obtain ⟨C, hC⟩ : ∃ C, C = (cs ++ [x]).toArray ++ Builtin.zeroCells (Value.slice none 0 0).cells (G - (i + 1)) := ⟨_, rfl⟩
      rw [← hC]
      have hA : (W.drew.alloc (.cells C 22)).heap[W.heap.size]? = some (.cells C 22 (0, 0)) := by
        show (W.heap.push _)[W.heap.size]? = _
        simp
      refine ⟨W.heap.size, G, by rw [hil, hl], row_of_cells (by omega) ⟨C, hA, ?_⟩ hge hgm hl hi (fun j hj => ?_), grown_below _ (((Below.refl _ W).drew).alloc (Nat.le_refl _) _), .inr (Nat.le_refl _), heap_lt hA⟩
      · rw [hC, Array.size_append, size_zeroCells]
        have h1 : (Value.slice none 0 0).cells.size = 1 := rfl
        rw [h1, List.size_toArray, List.length_append, hl]; simp; omega
      · have hcj : (W.drew.alloc (.cells C 22)).cell? ⟨W.heap.size, j, none⟩ = C[j]? := by unfold World.cell?; rw [hA]; simp
        rw [hcj, hC, Array.getElem?_append_left (by simp [hl]; omega)]
        by_cases e1 : j = i
        · subst e1
          rw [if_neg (by omega), if_pos rfl]
          simp [hl]
        · rw [if_pos (by omega)]
          simp only [List.getElem?_toArray]
          rw [List.getElem?_append_left (by rw [hl]; omega)]
end Go.Proofs.Ytjpllcdjiagjlaa
