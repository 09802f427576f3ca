/-
  THE CONTRACT OF slices.Insert OF ONE NUMBER INTO A ROW OF THE CALL's OWN: in place, or a new row; all else stays as it was.
-/
import Derived.Test.YtjpllcdjiagjlaaSetFind
namespace Go.Proofs.Ytjpllcdjiagjlaa
open Go.RowKit

theorem setCells_row (b : Nat) : ∀ (vs : List Value) (o : Nat) (w : World) (cur : Array Value) (e : TypeId) (fr : Nat × Nat), w.heap[b]? = some (.cells cur e fr) →
    ∃ cur', (w.setCells b o vs).heap[b]? = some (.cells cur' e fr) ∧ cur'.size = cur.size
  | [], _, _, cur, _, _, h => ⟨cur, h, rfl⟩
  | v :: r, o, w, cur, e, fr, h => by
    have h1 : (w.setCell ⟨b, o, none⟩ v).heap[b]? = some (.cells (cur.setIfInBounds o v) e fr) := by
      simp [World.setCell, Array.getElem?_modify, h]
    obtain ⟨cur', h2, h3⟩ := setCells_row b r (o + 1) _ _ e fr h1
    exact ⟨cur', h2, by rw [h3]; simp⟩

theorem setCells_grown (b : Nat) : ∀ (vs : List Value) (o : Nat) (w : World), w.grownBy (w.setCells b o vs) (some b)
  | [], _, _ => ⟨rfl, rfl, rfl, Nat.le_refl _, fun _ _ _ => rfl⟩
  | v :: r, o, w => by
    have h := setCells_grown b r (o + 1) (w.setCell ⟨b, o, none⟩ v)
    have hz : (w.setCell ⟨b, o, none⟩ v).heap.size = w.heap.size := by simp [World.setCell]
    refine ⟨h.os, h.tape, h.output, by
      have := h.size
      show _ ≤ ((w.setCell ⟨b, o, none⟩ v).setCells b (o + 1) r).heap.size
      omega, fun k hk hne => ?_⟩
    rw [World.setCells, h.block k (by omega) hne]
    have hkb : k ≠ b := fun e => hne (by rw [e])
    simp [World.setCell, Array.getElem?_modify, Ne.symm hkb]

theorem grown_trans {a b c : World} {row : Option Nat} (h : a.grownBy b row) (k : b.grownBy c row) : a.grownBy c row :=
  ⟨k.os.trans h.os, k.tape.trans h.tape, k.output.trans h.output, Nat.le_trans h.size k.size, fun i hi hne => (k.block i (Nat.lt_of_lt_of_le hi h.size) hne).trans (h.block i hi hne)⟩
theorem grown_below {w w' : World} (row : Option Nat) (h : Below w.heap.size w w') : w.grownBy w' row := ⟨h.os, h.tape, h.output, h.size, fun k hk _ => h.block k hk⟩
theorem grown_drew (w : World) (row : Option Nat) : w.grownBy w.drew row := ⟨rfl, rfl, rfl, Nat.le_refl _, fun _ _ _ => rfl⟩

theorem below_setCells {B : Nat} {a w : World} (h : Below B a w) (hB : B ≤ w.heap.size) {g : Nat} (hg : B ≤ g) (o : Nat) (vs : List Value) : Below B a (w.setCells g o vs) :=
  h.grown (setCells_grown g vs o w) hB (fun k hk => by cases hk; exact hg)

/-- A row out of its cells. -/
theorem own_cells {w : World} {B g cap : Nat} {e : TypeId} {xs : List Value} {cur : Array Value} (hB : B ≤ g) (hg : w.heap[g]? = some (.cells cur e (0, 0))) (hs : cur.size = cap) (hl : xs.length ≤ cap) (hm : cap ≤ maxLen)
    (hc : ∀ j, j < xs.length → w.cell? ⟨g, j, none⟩ = xs[j]?) : w.ownsRow B e 1 (.slice (some ⟨g, 0, none⟩) xs.length cap) xs.length xs := by
  refine ⟨by omega, .inr ⟨g, cap, cur, rfl, hB, hg, hl, hm, by omega, ?_⟩⟩
  apply List.ext_getElem?
  intro j
  rw [List.getElem?_take]
  by_cases hj : j < xs.length
  · rw [if_pos (by omega), ← hc j hj]
    simp [World.cell?, hg]
  · rw [if_neg (by omega), List.getElem?_eq_none (by omega)]

/-- Of a row: its block. -/
theorem own_block {w : World} {B g n cap : Nat} {e : TypeId} {xs : List Value} (h : w.ownsRow B e 1 (.slice (some ⟨g, 0, none⟩) n cap) n xs) :
    ∃ cur, B ≤ g ∧ w.heap[g]? = some (.cells cur e (0, 0)) ∧ n ≤ cap ∧ cap ≤ maxLen ∧ cur.size = cap ∧ xs.length = n ∧ (∀ j, j < cap → (w.cell? ⟨g, j, none⟩).isSome = true) ∧ (∀ j, w.frozen? ⟨g, j, none⟩ = false) := by
  have hl := h.1
  rcases h.2 with ⟨h', _⟩ | ⟨g', cap', cur, h', hB, hg, hn, hm, hs, _⟩
  · simp at h'
  · simp only [Value.slice.injEq, Option.some.injEq, Addr.mk.injEq, and_true, true_and] at h'
    obtain ⟨rfl, rfl⟩ := h'
    refine ⟨cur, hB, hg, hn, hm, by omega, by omega, fun j hj => ?_, fun j => ?_⟩
    · simp [World.cell?, hg]; omega
    · simp [World.frozen?, hg]

def ins (l : List Int) (i : Nat) (x : Int) : List Int := l.take i ++ x :: l.drop i
theorem ins_len (l : List Int) (i : Nat) (x : Int) (h : i ≤ l.length) : (ins l i x).length = l.length + 1 := by simp [ins]; omega
theorem ins_get (l : List Int) (i : Nat) (x : Int) (h : i ≤ l.length) (j : Nat) : (ints (ins l i x))[j]? = if j < i then (ints l)[j]? else if j = i then some (.int .i64 x) else (ints l)[j - 1]? := by
  unfold ints ins
  rw [List.getElem?_map]
  have ht : (l.take i).length = i := by rw [List.length_take]; omega
  split
  · rename_i hj
    rw [List.getElem?_append_left (by omega), List.getElem?_take, if_pos hj, List.getElem?_map]
  · rename_i hj
    rw [List.getElem?_append_right (by omega), ht]
    split
    · rename_i e
      subst e; simp
    · rename_i e
      rw [show j - i = (j - 1 - i) + 1 from by omega, List.getElem?_cons_succ, List.getElem?_drop, List.getElem?_map]
      rw [show i + (j - 1 - i) = j - 1 from by omega]
theorem one_cell (l : List Int) : ∀ v ∈ ints l, v.oneCell' = true := by
  intro v hv
  unfold ints at hv
  obtain ⟨n, _, rfl⟩ := List.mem_map.1 hv
  rfl

/-- What slices.Insert leaves: the row with the number put in, where it was or new; nothing else turned. -/
def InsPost (W : World) (B : Nat) (b : Blk) (i : Nat) (x : Int) (e : Ending) (w' : World) : Prop :=
  ∃ b' : Blk, e = .returned b'.val ∧ b'.xs = ins b.xs i x ∧ w'.ownsRow B 3 1 b'.val b'.xs.length (ints b'.xs) ∧ W.grownBy w' (some b.g) ∧ (b'.g = b.g ∨ W.heap.size ≤ b'.g) ∧ b'.g < w'.heap.size

theorem insert_any (b : Blk) (i vb B : Nat) (x : Int) (W : World) (hb : W.ownsRow B 3 1 b.val b.xs.length (ints b.xs)) (hi : i ≤ b.xs.length) (hlen : b.xs.length ≤ 1000)
    (hv : W.heap[vb]? = some (.cells #[.int .i64 x] 3 (0, 0))) (hne : vb ≠ b.g) :
    Calls Try.prog 29 #[b.val, .int .i64 i, .slice (some ⟨vb, 0, none⟩) 1 1] W (InsPost W B b i x) := by
  obtain ⟨g, cap, xs⟩ := b
  simp only [Blk.val] at hb hi hlen hne ⊢
  obtain ⟨cur, hBg, hg, hnc, hm, hs, hil, hsome, hfz⟩ := own_block hb
  have hglt := heap_lt hg
  have hvs : ∀ j v, [Value.int .i64 x][j]? = some v → W.cell? ⟨vb, 0 + j, none⟩ = some v := fun j v hj => by
    match j, hj with
    | 0, hj => simp at hj; subst hj; simp [World.cell?, hv]
  have hcs : ∀ j v, (ints xs)[j]? = some v → W.cell? ⟨g, 0 + j, none⟩ = some v := fun j v hj => by
    have hjl : j < xs.length := by
      have := (List.getElem?_eq_some_iff.1 hj).1
      rw [hil] at this; exact this
    rw [Nat.zero_add, hb.cellAt j (by omega), hj]
  have h1v : ∀ v ∈ [Value.int .i64 x], v.oneCell' = true := fun v hv => by simp at hv; subst hv; rfl
  have hcellAll : ∀ (w' : World), (∀ j, j < xs.length + 1 → w'.cell? ⟨g, j, none⟩ = (ints (ins xs i x))[j]?) → (∃ cur', w'.heap[g]? = some (.cells cur' 3 (0, 0)) ∧ cur'.size = cap) → xs.length + 1 ≤ cap →
      w'.ownsRow B 3 1 (.slice (some ⟨g, 0, none⟩) (xs.length + 1) cap) (xs.length + 1) (ints (ins xs i x)) := fun w' h1 ⟨cur', h2, h3⟩ h4 => by
    have hl : (ints (ins xs i x)).length = xs.length + 1 := by unfold ints; rw [List.length_map, ins_len _ _ _ hi]
    have := own_cells (xs := ints (ins xs i x)) hBg h2 h3 (by omega) hm (fun j hj => h1 j (by omega))
    rw [hl] at this; exact this
  by_cases hroom : xs.length + 1 ≤ cap
  · by_cases hlt : i < xs.length
    · refine (Any2.slices_Insert_int_shift Try.lays2_21 g 0 xs.length cap i vb 0 1 1 (ints xs) [.int .i64 x] W hlt (by omega) hroom (by unfold maxLen at hm; omega) hne hil rfl hcs (fun j hj => by rw [Nat.zero_add]; exact hsome j (by omega)) (fun j _ => hfz _) hvs (one_cell xs) h1v
        3 3 1 cap (by simp [World.shape?, hv]) (by simp [World.shape?, hg, hs]) (by omega) (by simp [World.frozen?, hv]) (by simp [World.frozen?, hv])).mono ?_
      rintro e w' ⟨rfl, rfl⟩
      obtain ⟨c1, hc1, hs1⟩ := setCells_row g ((ints xs).drop i) (0 + (i + 1)) W.drew cur 3 (0, 0) hg
      obtain ⟨c2, hc2, hs2⟩ := setCells_row g [.int .i64 x] (0 + i) _ c1 3 (0, 0) hc1
      have hdl : ((ints xs).drop i).length = xs.length - i := by rw [List.length_drop, hil]
      refine ⟨⟨g, cap, ins xs i x⟩, by simp [Blk.val, ins_len _ _ _ hi], rfl, ?_, ?_, .inl rfl, heap_lt hc2⟩
      · simp only [Blk.val, ins_len _ _ _ hi]
        refine hcellAll _ (fun j hj => ?_) ⟨c2, hc2, by omega⟩ hroom
        rw [ins_get _ _ _ hi]
        by_cases e1 : j = i
        · subst e1
          have := World.cell?_setCells_in g [.int .i64 x] (0 + j) (W.drew.setCells g (0 + (j + 1)) ((ints xs).drop j)) (fun k hk => by
            have hk0 : k = 0 := by simpa using hk
            subst hk0
            rw [World.cell?_setCells_out _ _ _ _ _ (fun _ _ => .inl (by simp))]
            have := hsome j (by omega)
            simpa using this) 0 (by simp)
          simpa using this
        · rw [World.cell?_setCells_out _ _ _ _ _ (fun _ _ => by simp; omega)]
          split
          · rename_i hji
            rw [World.cell?_setCells_out _ _ _ _ _ (fun _ _ => .inl (by simp; omega))]
            exact hb.cellAt j (by omega)
          · rename_i hji
            have := World.cell?_setCells_in g ((ints xs).drop i) (0 + (i + 1)) W.drew (fun k hk => by
              have := hsome (0 + (i + 1) + k) (by omega)
              exact this) (j - i - 1) (by omega)
            rw [show 0 + (i + 1) + (j - i - 1) = j from by omega] at this
            rw [this, List.getElem_drop, ← List.getElem?_eq_getElem]
            congr 1; omega
      · exact grown_trans (grown_drew W _) (grown_trans (setCells_grown _ _ _ _) (setCells_grown _ _ _ _))
    · have hie : i = xs.length := by omega
      subst hie
      refine (Any2.slices_Insert_int_end_room Try.lays2_21 g 0 xs.length cap vb 0 1 1 [.int .i64 x] W (by omega) hroom (by unfold maxLen at hm; omega) rfl (fun j hj => by
        have := hsome (0 + xs.length + j) (by omega)
        exact this) (fun j _ => hfz _) hvs h1v).mono ?_
      rintro e w' ⟨rfl, rfl⟩
      obtain ⟨c2, hc2, hs2⟩ := setCells_row g [.int .i64 x] (0 + xs.length) W cur 3 (0, 0) hg
      refine ⟨⟨g, cap, ins xs xs.length x⟩, by simp [Blk.val, ins_len _ _ _ hi], rfl, ?_, setCells_grown _ _ _ _, .inl rfl, heap_lt hc2⟩
      simp only [Blk.val, ins_len _ _ _ hi]
      refine hcellAll _ (fun j hj => ?_) ⟨c2, hc2, by omega⟩ hroom
      rw [ins_get _ _ _ hi]
      by_cases e1 : j = xs.length
      · subst e1
        have := World.cell?_setCells_in g [.int .i64 x] (0 + xs.length) W (fun k hk => by
          have hk0 : k = 0 := by simpa using hk
          subst hk0
          have := hsome xs.length (by omega)
          simpa using this) 0 (by simp)
        simpa using this
      · rw [World.cell?_setCells_out _ _ _ _ _ (fun _ _ => .inl (by simp; omega)), if_pos (by omega)]
        exact hb.cellAt j (by omega)
  · have hgc := grownCap_ge W (xs.length + 1) cap 3
    have hgm := grownCap_le_maxLen W (xs.length + 1) cap 3 (by unfold maxLen; omega)
    have hgc2 : grownCap W.drew (xs.length + 1) cap 3 = grownCap W.drew (xs.length + 1) cap 3 := rfl
    have hN : B ≤ W.heap.size := by omega
    by_cases hlt : i < xs.length
    · refine (Any2.slices_Insert_int_grow Try.lays2_21 g 0 xs.length cap i vb 0 1 1 (ints xs) [.int .i64 x] W hlt (by omega) hnc (by omega) (by omega) hil rfl hcs hvs (one_cell xs) h1v).mono ?_
      rintro e w' ⟨rfl, rfl⟩
      obtain ⟨gc, hgcv⟩ : ∃ gc, gc = grownCap W (xs.length + 1) cap 3 := ⟨_, rfl⟩
      rw [← hgcv] at hgc hgm
      obtain ⟨C, hC⟩ : ∃ C, C = ((ints xs).take i).toArray ++ Builtin.zeroCells (Value.int .i64 0).cells (xs.length + 1 - i) ++ Builtin.zeroCells (Value.int .i64 0).cells (gc - (xs.length + 1)) := ⟨_, rfl⟩
      have hCs : C.size = gc := by
        rw [hC, Array.size_append, Array.size_append, size_zeroCells, size_zeroCells]
        have : (Value.int .i64 0).cells.size = 1 := rfl
        rw [this, List.size_toArray, List.length_take, hil]; omega
      have hCg : ∀ j, j < i → C[j]? = (ints xs)[j]? := fun j hj => by
        rw [hC, Array.append_assoc, Array.getElem?_append_left (by simp [hil]; omega)]
        simp [hj]
      have hA : (W.alloc (.cells C 3)).heap[W.heap.size]? = some (.cells C 3 (0, 0)) := by
        show (W.heap.push _)[W.heap.size]? = _
        simp
      have hcA : ∀ j, (W.alloc (.cells C 3)).cell? ⟨W.heap.size, j, none⟩ = C[j]? := fun j => by unfold World.cell?; rw [hA]; simp
      obtain ⟨c1, hc1, hs1⟩ := setCells_row W.heap.size [.int .i64 x] i (W.alloc (.cells C 3)).drew C 3 (0, 0) hA
      obtain ⟨c2, hc2, hs2⟩ := setCells_row W.heap.size ((ints xs).drop i) (i + 1) ((W.alloc (.cells C 3)).drew.setCells W.heap.size i [.int .i64 x]).drew c1 3 (0, 0) hc1
      have hdl : ((ints xs).drop i).length = xs.length - i := by rw [List.length_drop, hil]
      refine ⟨⟨W.heap.size, gc, ins xs i x⟩, ?_, rfl, ?_, ?_, .inr (Nat.le_refl _), ?_⟩
      · simp only [Blk.val, ins_len _ _ _ hi]; rw [hgcv]; rfl
      · have hw : (((W.alloc (.cells (((ints xs).take i).toArray ++ Builtin.zeroCells (Value.int .i64 0).cells (xs.length + 1 - i) ++ Builtin.zeroCells (Value.int .i64 0).cells (grownCap W (xs.length + 1) cap 3 - (xs.length + 1))) 3)).drew.setCells W.heap.size i [.int .i64 x]).drew).setCells W.heap.size (i + 1) ((ints xs).drop i) =
            ((W.alloc (.cells C 3)).drew.setCells W.heap.size i [.int .i64 x]).drew.setCells W.heap.size (i + 1) ((ints xs).drop i) := by rw [← hgcv, ← hC]
        show World.ownsRow ((((W.alloc (.cells (((ints xs).take i).toArray ++ Builtin.zeroCells (Value.int .i64 0).cells (xs.length + 1 - i) ++ Builtin.zeroCells (Value.int .i64 0).cells (grownCap W (xs.length + 1) cap 3 - (xs.length + 1))) 3)).drew.setCells W.heap.size i [.int .i64 x]).drew).setCells W.heap.size (i + 1) ((ints xs).drop i)) B 3 1 _ _ _
        rw [hw]
        have hl : (ints (ins xs i x)).length = xs.length + 1 := by unfold ints; rw [List.length_map, ins_len _ _ _ hi]
        have := own_cells (w := ((W.alloc (.cells C 3)).drew.setCells W.heap.size i [.int .i64 x]).drew.setCells W.heap.size (i + 1) ((ints xs).drop i)) (xs := ints (ins xs i x)) (cap := gc) hN hc2 (by omega) (by omega) hgm (fun j hj => by
          rw [hl] at hj
          rw [ins_get _ _ _ hi]
          by_cases e1 : j ≤ i
          · rw [World.cell?_setCells_out _ _ _ _ _ (fun _ _ => .inl (by simp; omega))]
            by_cases e2 : j = i
            · subst e2
              have := World.cell?_setCells_in W.heap.size [.int .i64 x] j (W.alloc (.cells C 3)).drew (fun k hk => by
                have hk0 : k = 0 := by simpa using hk
                subst hk0
                show ((W.alloc (.cells C 3)).cell? ⟨W.heap.size, j + 0, none⟩).isSome = true
                rw [hcA]; simp; omega) 0 (by simp)
              rw [if_neg (by omega), if_pos rfl]
              simpa using this
            · rw [if_pos (by omega)]
              show ((W.alloc (.cells C 3)).drew.setCells W.heap.size i [.int .i64 x]).cell? ⟨W.heap.size, j, none⟩ = _
              rw [World.cell?_setCells_out _ _ _ _ _ (fun _ _ => .inl (by simp; omega))]
              exact (hcA j).trans (hCg j (by omega))
          · rw [if_neg (by omega), if_neg (by omega)]
            have := World.cell?_setCells_in W.heap.size ((ints xs).drop i) (i + 1) ((W.alloc (.cells C 3)).drew.setCells W.heap.size i [.int .i64 x]).drew (fun k hk => by
              show (((W.alloc (.cells C 3)).drew.setCells W.heap.size i [.int .i64 x]).cell? ⟨W.heap.size, i + 1 + k, none⟩).isSome = true
              rw [World.cell?_setCells_out _ _ _ _ _ (fun _ _ => .inr (by simp))]
              show ((W.alloc (.cells C 3)).cell? ⟨W.heap.size, i + 1 + k, none⟩).isSome = true
              rw [hcA]; simp; omega) (j - i - 1) (by omega)
            rw [show i + 1 + (j - i - 1) = j from by omega] at this
            rw [this, List.getElem_drop, ← List.getElem?_eq_getElem]
            congr 1; omega)
        simp only [Blk.val, ins_len _ _ _ hi]
        rw [hl] at this
        exact this
      · exact grown_below _ (below_setCells (Below.drew (below_setCells (Below.drew ((Below.refl _ W).alloc (Nat.le_refl _) _)) (by show _ ≤ (W.alloc _).heap.size; simp) (Nat.le_refl _) _ _)) (by
          have := (setCells_grown W.heap.size [.int .i64 x] i (W.alloc (.cells (((ints xs).take i).toArray ++ Builtin.zeroCells (Value.int .i64 0).cells (xs.length + 1 - i) ++ Builtin.zeroCells (Value.int .i64 0).cells (grownCap W (xs.length + 1) cap 3 - (xs.length + 1))) 3)).drew).size
          have h2 : (W.alloc (.cells (((ints xs).take i).toArray ++ Builtin.zeroCells (Value.int .i64 0).cells (xs.length + 1 - i) ++ Builtin.zeroCells (Value.int .i64 0).cells (grownCap W (xs.length + 1) cap 3 - (xs.length + 1))) 3)).drew.heap.size = W.heap.size + 1 := by show (W.alloc _).heap.size = _; simp
          exact Nat.le_trans (by omega) this) (Nat.le_refl _) _ _)
      · have := heap_lt hc2
        rw [hC, hgcv] at this
        exact this
    · have hie : i = xs.length := by omega
      subst hie
      refine (Any2.slices_Insert_int_end_grow Try.lays2_21 (some ⟨g, 0, none⟩) xs.length cap vb 0 1 1 (ints xs) [.int .i64 x] W (by omega) hnc (by omega) (by omega) hil rfl (fun h => by cases h) (fun a ha j v hj => by
        cases ha
        have e : (⟨g, 0, none⟩ : Addr).add j = ⟨g, 0 + j, none⟩ := by unfold Addr.add; split <;> simp_all
        rw [e]; exact hcs j v hj) hvs h1v).mono ?_
      rintro e w' ⟨rfl, rfl⟩
      refine ⟨⟨W.heap.size, grownCap W (xs.length + 1) cap 3, ins xs xs.length x⟩, ?_, rfl, ?_, ?_, .inr (Nat.le_refl _), ?_⟩
      · simp only [Blk.val, ins_len _ _ _ hi]; rfl
      · have hl : (ints (ins xs xs.length x)).length = xs.length + 1 := by unfold ints; rw [List.length_map, ins_len _ _ _ hi]
        obtain ⟨C, hC⟩ : ∃ C, C = (ints xs ++ [Value.int .i64 x]).toArray ++ Builtin.zeroCells (Value.int .i64 0).cells (grownCap W (xs.length + 1) cap 3 - (xs.length + 1)) := ⟨_, rfl⟩
        have hA : (W.drew.alloc (.cells C 3)).heap[W.heap.size]? = some (.cells C 3 (0, 0)) := by
          show (W.heap.push _)[W.heap.size]? = _
          simp
        have := own_cells (w := W.drew.alloc (.cells C 3)) (xs := ints (ins xs xs.length x)) (cap := grownCap W (xs.length + 1) cap 3) hN hA (by
            rw [hC, Array.size_append, size_zeroCells]
            have h1 : (Value.int .i64 0).cells.size = 1 := rfl
            rw [h1, List.size_toArray, List.length_append, hil]; simp; omega) (by omega) hgm (fun j hj => by
          rw [hl] at hj
          rw [ins_get _ _ _ hi]
          have hcj : (W.drew.alloc (.cells C 3)).cell? ⟨W.heap.size, j, none⟩ = C[j]? := by unfold World.cell?; rw [hA]; simp
          rw [hcj, hC, Array.getElem?_append_left (by simp [hil]; omega)]
          by_cases e1 : j = xs.length
          · subst e1
            rw [if_neg (by omega), if_pos rfl]
            simp [hil]
          · rw [if_pos (by omega)]
            simp only [List.getElem?_toArray]
            rw [List.getElem?_append_left (by rw [hil]; omega)])
        simp only [Blk.val, ins_len _ _ _ hi]
        rw [hl, hC] at this
        exact this
      · exact grown_below _ (((Below.refl _ W).drew).alloc (Nat.le_refl _) _)
      · show W.heap.size < (W.heap.push _).size
        simp
end Go.Proofs.Ytjpllcdjiagjlaa
