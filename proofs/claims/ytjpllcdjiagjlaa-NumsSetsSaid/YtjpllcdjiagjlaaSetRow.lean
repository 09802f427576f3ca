/-
  slices.Insert OF ONE BLOCK INTO A SET's ROW OF BLOCKS (a row of slices): its four ways, walked here; then one contract for a row of the call's own.
-/
import Derived.Test.YtjpllcdjiagjlaaSetAdd
import Derived.Shelf.Spec.SlicesInsertGrow
namespace Go.Proofs.Ytjpllcdjiagjlaa
open Go.RowKit Go.Shelf Go.Lib

theorem infoR : (Try.prog.info? 22).map (fun i => (i.zero, i.size, i.bytes)) = some (some (.slice none 0 0), 1, 24) := by kernel_rfl

/-- The place is behind all others, and there is room. -/
theorem rowIns_room (g n c vb : Nat) (x : Value) (w : World) (hroom : n + 1 ≤ c) (hm : c ≤ maxLen) (hsp : (w.cell? ⟨g, n, none⟩).isSome = true) (hfz : w.frozen? ⟨g, n, none⟩ = false)
    (hv : w.cell? ⟨vb, 0, none⟩ = some x) (h1 : x.oneCell' = true) :
    Calls Try.prog 38 #[.slice (some ⟨g, 0, none⟩) n c, .int .i64 n, .slice (some ⟨vb, 0, none⟩) 1 1] w fun e w' => e = .returned (.slice (some ⟨g, 0, none⟩) (n + 1) c) ∧ w' = w.setCells g n [x] := by
  unfold maxLen at hm
  have hsrc : Src Try.prog 1 42 (.slice (some ⟨vb, 0, none⟩) 1 1) 1 [x] w := Src.ofSlice w Try.underlying42 ⟨vb, 0, none⟩ 1 1 [x] (by simp) (fun j u hj => by
    match j, hj with
    | 0, hj => simp at hj; subst hj; exact hv) (fun v hv => by simp at hv; subst hv; exact h1)
  go_enter Try.func38, Try.ntmps38
  go_wp2_with (at_builtin; refine wpList_append_room1 _ rfl _ _ 42 42 rfl 22 _ _ Try.underlying42 infoR g 0 n c rfl _ rfl 1 [x] hsrc hroom (fun j hj => by
      have : j = 0 := by simpa using hj
      subst this; simpa using hsp) (fun j hj => by
      have : j = 0 := by simpa using hj
      subst this; simpa using hfz) ?_)
  go_ret
  exact ⟨rfl, rfl⟩

/-- .. and there is no room. -/
theorem rowIns_more (g n c vb : Nat) (x : Value) (cs : List Value) (w : World) (hnc : n ≤ c) (hfull : c < n + 1) (hn : n ≤ 100000) (hl : cs.length = n)
    (hcs : ∀ j v, cs[j]? = some v → w.cell? ⟨g, j, none⟩ = some v) (hv : w.cell? ⟨vb, 0, none⟩ = some x) (h1 : x.oneCell' = true) :
    Calls Try.prog 38 #[.slice (some ⟨g, 0, none⟩) n c, .int .i64 n, .slice (some ⟨vb, 0, none⟩) 1 1] w fun e w' => e = .returned (.slice (some ⟨w.heap.size, 0, none⟩) (n + 1) (grownCap w (n + 1) c 22)) ∧
      w' = w.drew.alloc (.cells ((cs ++ [x]).toArray ++ Builtin.zeroCells (Value.slice none 0 0).cells (grownCap w (n + 1) c 22 - (n + 1))) 22) := by
  obtain ⟨i0, hi0, hz0, hzs, hzb⟩ := info_parts infoR
  have hsrc : Src Try.prog i0.size 42 (.slice (some ⟨vb, 0, none⟩) 1 1) 1 [x] w := by
    rw [hzs]
    exact Src.ofSlice w Try.underlying42 ⟨vb, 0, none⟩ 1 1 [x] (by simp) (fun j u hj => by
      match j, hj with
      | 0, hj => simp at hj; subst hj; exact hv) (fun v hv => by simp at hv; subst hv; exact h1)
  have hold : (Builtin.firstCells i0.size n (.slice (some ⟨g, 0, none⟩) n c)).run Try.prog w.drew = .ok cs.toArray w.drew := by
    rw [hzs]
    exact run_firstCells_some w.drew 1 n ⟨g, 0, none⟩ n c cs (by omega) (fun j v hj => by rw [Addr.add_lit, Nat.zero_add]; exact hcs j v hj)
  have hrun : ∀ ty, (Builtin.append_ #[42, 42] ty #[.slice (some ⟨g, 0, none⟩) n c, .slice (some ⟨vb, 0, none⟩) 1 1]).run Try.prog w = _ := fun ty =>
    run_append_grow_src w 42 42 ty 22 i0 _ Try.underlying42 hi0 hz0 (some ⟨g, 0, none⟩) n c cs hold _ 1 [x] hsrc hfull (by omega) (by rw [hzb]; exact growslice_fits hfull (by omega))
  go_enter Try.func38, Try.ntmps38
  go_wp2_with (at_builtin; refine Lib.wpList_append_run _ rfl _ _ _ _ rfl _ _ rfl rfl _ _ (hrun _) ?_)
  all_goals (go_ret; exact ⟨rfl, rfl⟩)

/-- copy between two rows of blocks. -/
theorem rcopy (W : World) (ty : TypeId) (b o m dc sb so l sc : Nat) (vs : List Value) (hl : vs.length = Nat.min l m) (hs : ∀ j v, vs[j]? = some v → W.cell? ⟨sb, so + j, none⟩ = some v) (hd : ∀ j, j < vs.length → (W.cell? ⟨b, o + j, none⟩).isSome = true)
    (hf : ∀ j, W.frozen? ⟨b, j, none⟩ = false) (h1 : ∀ v ∈ vs, v.oneCell' = true) :
    (Builtin.copy_ #[42, 42] ty #[.slice (some ⟨b, o, none⟩) m dc, .slice (some ⟨sb, so, none⟩) l sc]).run Try.prog W = .ok (goInt vs.length) (W.setCells b o vs) :=
  run_copy_cells W _ _ ty 22 b o m dc ⟨sb, so, none⟩ l sc vs Try.underlying42 (by obtain ⟨i0, hi0, _, hzs, _⟩ := info_parts infoR; rw [hi0]; simp [hzs]) hl (fun j v hj => by rw [Addr.add_lit]; exact hs j v hj) hd (fun j _ => hf _) h1

/-- The place is ahead of others, and there is room. -/
theorem rowIns_shift (g n c i vb : Nat) (x : Value) (cs : List Value) (w : World) (hi : i < n) (hroom : n + 1 ≤ c) (hm : c ≤ maxLen) (hvb : vb ≠ g) (hl : cs.length = n)
    (hcs : ∀ j v, cs[j]? = some v → w.cell? ⟨g, j, none⟩ = some v) (hsp : ∀ j, j < n + 1 → (w.cell? ⟨g, j, none⟩).isSome = true) (hfz : ∀ j, w.frozen? ⟨g, j, none⟩ = false)
    (hv : w.heap[vb]? = some (.cells #[x] 22 (0, 0))) (hg : ∃ k, w.shape? g = some (22, k) ∧ k ≠ 0) (h1c : ∀ v ∈ cs, v.oneCell' = true) (h1 : x.oneCell' = true) :
    Calls Try.prog 38 #[.slice (some ⟨g, 0, none⟩) n c, .int .i64 i, .slice (some ⟨vb, 0, none⟩) 1 1] w fun e w' => e = .returned (.slice (some ⟨g, 0, none⟩) (n + 1) c) ∧
      w' = (w.drew.setCells g (i + 1) (cs.drop i)).setCells g i [x] := by
  unfold maxLen at hm
  obtain ⟨kg, hsg, hkg⟩ := hg
  have hvc : w.cell? ⟨vb, 0, none⟩ = some x := by simp [World.cell?, hv]
  have hov : ∀ lb cb, (callFunc 41 #[.slice (some ⟨vb, 0, none⟩) 1 1, .slice (some ⟨g, i + 1, none⟩) lb cb]).run Try.prog w = .ok (.value (.bool false)) w := fun lb cb => by
    rw [run_callFunc_extern Try.func41 (by kernel_rfl) (by kernel_rfl) (by kernel_rfl) (e := Extern.SlicesOverlaps.overlaps #[42, 42] #[4]) (by kernel_rfl),
      run_overlaps_apart w 42 4 22 Try.underlying42 1 Try.sizeOf22 ⟨vb, 0, none⟩ ⟨g, i + 1, none⟩ 1 1 lb cb hvb 22 22 1 kg (by simp [World.shape?, hv]) hsg hkg (by simp [World.frozen?, hv]) (by simp [World.frozen?, hv])]
    rfl
  have hdl : (cs.drop i).length = n - i := by rw [List.length_drop, hl]
  have hcp1 : ∀ ty dc sc, (Builtin.copy_ #[42, 42] ty #[.slice (some ⟨g, i + 1, none⟩) (n - i) dc, .slice (some ⟨g, i, none⟩) (n + 1 - i) sc]).run Try.prog w.drew = .ok (goInt (cs.drop i).length) (w.drew.setCells g (i + 1) (cs.drop i)) := fun ty dc sc =>
    rcopy w.drew ty g (i + 1) _ dc g i _ sc (cs.drop i) (by rw [hdl]; simp only [Nat.min_def]; split <;> omega) (fun j v hj => hcs (i + j) v (by rwa [List.getElem?_drop] at hj)) (fun j hj => hsp _ (by omega)) hfz (fun v hv => h1c v (List.mem_of_mem_drop hv))
  obtain ⟨W1, hW1⟩ : ∃ W1, W1 = w.drew.setCells g (i + 1) (cs.drop i) := ⟨_, rfl⟩
  have hcp2 : ∀ (W : World), (∀ y, W.cell? y = W1.cell? y) → (∀ y, W.frozen? y = W1.frozen? y) → ∀ ty dc, (Builtin.copy_ #[42, 42] ty #[.slice (some ⟨g, i, none⟩) (n + 1 - i) dc, .slice (some ⟨vb, 0, none⟩) 1 1]).run Try.prog W = .ok (goInt ([x] : List Value).length) (W.setCells g i [x]) := fun W hWc hWf ty dc =>
    rcopy W ty g i _ dc vb 0 _ 1 [x] (by simp only [Nat.min_def]; split <;> simp <;> omega) (fun j v hj => by
      have h0 : j = 0 := by have := (List.getElem?_eq_some_iff.1 hj).1; simpa using this
      subst h0
      have hx : x = v := by simpa using hj
      rw [hWc, hW1, World.cell?_setCells_out g _ _ _ _ (fun h _ => absurd h hvb), ← hx]
      exact hvc) (fun j hj => by
      have h0 : j = 0 := by simpa using hj
      subst h0
      rw [hWc, hW1]
      exact isSome_setCells g (cs.drop i) (i + 1) w.drew (fun k hk => hsp (i + 1 + k) (by rw [hdl] at hk; omega)) (i + 0) (hsp (i + 0) (by omega))) (fun j => by rw [hWf, hW1, World.frozen?_setCells]; exact hfz j) (fun v hv => by simp at hv; subst hv; exact h1)
  rw [← hW1] at hcp1
  have mixed : Try.prog.follows .mixedOrders = true := by kernel_rfl
  have hne : ¬ ((i : Int) = (n : Int)) := by omega
  have hcap : ¬ (c = i + 1) := by omega
  have hcap2 : ¬ (c = i) := by omega
  have hw1 : IntKind.i64.wrap ((i : Int) + 1) = (i : Int) + 1 := by rw [IntKind.wrap_i64]; omega
  have hb1 : (0 : Int) ≤ (i : Int) + 1 := by omega
  have htn : ((i : Int) + 1).toNat = i + 1 := by omega
  have hb3 : (i : Int) ≤ (n : Int) + 1 := by omega
  have hin : i ≤ n := by omega
  clear hcs hsp hfz hv hvc h1c hsg
  go_enter Try.func38, Try.ntmps38
  go_wp2_with (simp only [hov])
  go_region_law_o (refine step_copy_runI rfl _ _ 42 42 rfl _ _ (by simp [Act.eval, Act.put]) (by simp [Act.eval, Act.put]) (hcp1 _ _ _) ?_)
  go_wp2_with (at_builtin; refine wpList_copy_runI _ rfl _ _ 42 42 rfl _ _ rfl rfl (hcp2 _ (fun _ => rfl) (fun _ => rfl) _ _) ?_)
  go_ret
  first | exact ⟨rfl, rfl⟩ | exact ⟨rfl, by rw [hW1]⟩

/-- .. and there is no room. -/
theorem rowIns_grow (g n c i vb : Nat) (x : Value) (cs : List Value) (w : World) (hi : i < n) (hnc : n ≤ c) (hfull : c < n + 1) (hn : n ≤ 100000) (hl : cs.length = n)
    (hcs : ∀ j v, cs[j]? = some v → w.cell? ⟨g, j, none⟩ = some v) (hv : w.cell? ⟨vb, 0, none⟩ = some x) (h1c : ∀ v ∈ cs, v.oneCell' = true) (h1 : x.oneCell' = true) :
    Calls Try.prog 38 #[.slice (some ⟨g, 0, none⟩) n c, .int .i64 i, .slice (some ⟨vb, 0, none⟩) 1 1] w fun e w' => ∃ (C : Array Value) (G : Nat), e = .returned (.slice (some ⟨w.heap.size, 0, none⟩) (n + 1) G) ∧
      w' = ((w.alloc (.cells C 22)).drew.setCells w.heap.size i [x]).drew.setCells w.heap.size (i + 1) (cs.drop i) ∧ C.size = G ∧ n + 1 ≤ G ∧ G ≤ maxLen ∧ ∀ j, j < i → C[j]? = cs[j]? := by
  obtain ⟨i0, hi0, hz0, hzs, hzb⟩ := info_parts infoR
  have hbw : g < w.heap.size := block_lt_of_cell (hcs 0 _ (List.getElem?_eq_getElem (by omega)))
  have hvw : vb < w.heap.size := block_lt_of_cell hv
  have hold : (Builtin.firstCells i0.size i (.slice (some ⟨g, 0, none⟩) i c)).run Try.prog w.drew = .ok (cs.take i).toArray w.drew := by
    rw [hzs]
    exact run_firstCells_some w.drew 1 i ⟨g, 0, none⟩ i c (cs.take i) (by rw [List.length_take]; omega) (fun j v hj => by
      rw [Addr.add_lit, Nat.zero_add]
      rw [List.getElem?_take] at hj
      split at hj
      · exact hcs j v hj
      · cases hj)
  have hcap : i + (n + 1 - i) = n + 1 := by omega
  have hge := grownCap_ge w (n + 1) c 22
  have hgm := grownCap_le_maxLen w (n + 1) c 22 (by unfold maxLen; omega)
  obtain ⟨G, hG⟩ : ∃ G, G = grownCap w (n + 1) c 22 := ⟨_, rfl⟩
  obtain ⟨C, hC⟩ : ∃ C : Array Value, C = (cs.take i).toArray ++ Builtin.zeroCells (Value.slice none 0 0).cells (n + 1 - i) ++ Builtin.zeroCells (Value.slice none 0 0).cells (G - (n + 1)) := ⟨_, rfl⟩
  have hrz : ∀ ty, (Builtin.append_ #[42, 3] ty #[.slice (some ⟨g, 0, none⟩) i c, .int .i64 ((n : Int) + 1 - (i : Int))]).run Try.prog w = .ok (.slice (some ⟨w.heap.size, 0, none⟩) (n + 1) G) (w.drew.alloc (.cells C 22)) := fun ty => by
    have h := Lib.run_append_grow_zeros w 42 3 ty 22 i0 _ .i64 .i64 Try.underlying42 Try.underlying3 hi0 hz0 (some ⟨g, 0, none⟩) i c (cs.take i) hold (n + 1 - i) (by omega) (by omega) (by omega) (by omega) (by rw [hzb]; omega) (by rw [hzb, hcap]; exact growslice_fits hfull (by omega))
    rw [hcap] at h
    rw [show (n : Int) + 1 - (i : Int) = ((n + 1 - i : Nat) : Int) by omega, hC, hG]
    exact h
  rw [← hG] at hge hgm
  have hone : (Value.slice none 0 0).cells.size = 1 := rfl
  have hCs : C.size = G := by
    rw [hC, Array.size_append, Array.size_append, size_zeroCells, size_zeroCells, hone, List.size_toArray, List.length_take]; omega
  have hCg : ∀ j, j < i → C[j]? = cs[j]? := fun j hj => by
    rw [hC, Array.append_assoc, Array.getElem?_append_left (by simp; omega)]
    simp [hj]
  clear hold hC
  have hNew : ∀ (W : World), (∀ y, W.cell? y = (w.drew.alloc (.cells C 22)).cell? y) → ∀ j, j < n + 1 → (W.cell? ⟨w.heap.size, j, none⟩).isSome = true := fun W h j hj => by
    rw [h, World.cell?_alloc_at (w := w.drew) C _ w.heap.size j rfl, Array.getElem?_eq_getElem (by omega)]; rfl
  have hNf : ∀ j, (w.drew.alloc (.cells C 22)).frozen? ⟨w.heap.size, j, none⟩ = false := fun j => World.frozen?_alloc_at (w := w.drew) C _ w.heap.size j rfl
  have hOld : ∀ b j v, b < w.heap.size → w.cell? ⟨b, j, none⟩ = some v → (w.drew.alloc (.cells C 22)).cell? ⟨b, j, none⟩ = some v := fun b j v hb h => by rw [World.cell?_alloc_past (w := w.drew) _ b j hb]; exact h
  have hcpA : ∀ (W : World), (∀ y, W.cell? y = (w.drew.alloc (.cells C 22)).cell? y) → (∀ y, W.frozen? y = (w.drew.alloc (.cells C 22)).frozen? y) → ∀ ty dc,
      (Builtin.copy_ #[42, 42] ty #[.slice (some ⟨w.heap.size, i, none⟩) (n + 1 - i) dc, .slice (some ⟨vb, 0, none⟩) 1 1]).run Try.prog W = .ok (goInt ([x] : List Value).length) (W.setCells w.heap.size i [x]) := fun W hWc hWf ty dc =>
    rcopy W ty w.heap.size i _ dc vb 0 1 1 [x] (by simp only [Nat.min_def]; split <;> simp <;> omega) (fun j v hj => by
      have h0 : j = 0 := by have := (List.getElem?_eq_some_iff.1 hj).1; simpa using this
      subst h0
      have hx : x = v := by simpa using hj
      rw [hWc, ← hx]; exact hOld _ _ _ hvw hv) (fun j hj => by
      have h0 : j = 0 := by simpa using hj
      subst h0
      exact hNew W hWc _ (by omega)) (fun j => by rw [hWf]; exact hNf j) (fun v hv => by simp at hv; subst hv; exact h1)
  have hdl : (cs.drop i).length = n - i := by rw [List.length_drop, hl]
  have hcpB : ∀ (W : World), (∀ y, W.cell? y = ((w.drew.alloc (.cells C 22)).setCells w.heap.size i [x]).cell? y) → (∀ y, W.frozen? y = ((w.drew.alloc (.cells C 22)).setCells w.heap.size i [x]).frozen? y) → ∀ ty dc sc,
      (Builtin.copy_ #[42, 42] ty #[.slice (some ⟨w.heap.size, i + 1, none⟩) (n - i) dc, .slice (some ⟨g, i, none⟩) (n - i) sc]).run Try.prog W = .ok (goInt (cs.drop i).length) (W.setCells w.heap.size (i + 1) (cs.drop i)) := fun W hWc hWf ty dc sc =>
    rcopy W ty w.heap.size (i + 1) _ dc g i _ sc (cs.drop i) (by rw [hdl]; simp only [Nat.min_def]; split <;> omega) (fun j v hj => by
      rw [hWc, World.cell?_setCells_out _ _ _ _ _ (fun h _ => absurd h (by show ¬ (g = w.heap.size); omega))]
      exact hOld _ _ _ hbw (hcs (i + j) v (by rwa [List.getElem?_drop] at hj))) (fun j hj => by
      rw [hdl] at hj
      rw [hWc]
      exact isSome_setCells _ _ _ _ (fun k hk => hNew _ (fun _ => rfl) _ (by simp at hk; omega)) _ (hNew _ (fun _ => rfl) _ (by omega)))
      (fun j => by rw [hWf, World.frozen?_setCells]; exact hNf j) (fun v hv => h1c v (List.mem_of_mem_drop hv))
  have hE1 : ∀ y, ((w.alloc (.cells C 22)).drew).cell? y = (w.drew.alloc (.cells C 22)).cell? y := fun y => rfl
  have hE2 : ∀ y, ((w.alloc (.cells C 22)).drew).frozen? y = (w.drew.alloc (.cells C 22)).frozen? y := fun y => rfl
  have hF1 : ∀ y, (((w.alloc (.cells C 22)).drew.setCells w.heap.size i [x]).drew).cell? y = ((w.drew.alloc (.cells C 22)).setCells w.heap.size i [x]).cell? y := fun y => rfl
  have hF2 : ∀ y, (((w.alloc (.cells C 22)).drew.setCells w.heap.size i [x]).drew).frozen? y = ((w.drew.alloc (.cells C 22)).setCells w.heap.size i [x]).frozen? y := fun y => rfl
  have mixed : Try.prog.follows .mixedOrders = true := by kernel_rfl
  have hne : ¬ ((i : Int) = (n : Int)) := by omega
  have hcn : (c : Int) < (n : Int) + 1 := by omega
  have hG63 : G ≤ 9223372036854775807 := by unfold maxLen at hgm; omega
  have hGi : ¬ (G = i) := by omega
  have hGi1 : ¬ (G = i + 1) := by omega
  have hci : ¬ (c = i) := by omega
  have hw1 : IntKind.i64.wrap ((i : Int) + 1) = (i : Int) + 1 := by rw [IntKind.wrap_i64]; omega
  have hb1 : (0 : Int) ≤ (i : Int) + 1 := by omega
  have htn : ((i : Int) + 1).toNat = i + 1 := by omega
  have hb3 : (i : Int) ≤ (n : Int) := by omega
  have hin : i ≤ n := by omega
  have HCg := Lib.hid hCg; clear hCg
  have HCs := Lib.hid hCs; clear hCs
  have HG := Lib.hid hge
  have HGM := Lib.hid hgm
  clear hcs hv h1c hNew hNf hOld hG hcap hone hgm
  go_enter Try.func38, Try.ntmps38
  go_wp2_with (first
    | (at_builtin; refine Lib.wpList_append_run _ rfl _ _ _ _ rfl _ _ rfl rfl _ _ (hrz _) ?_)
    | (at_builtin; refine wpList_copy_runI _ rfl _ _ 42 42 rfl _ _ rfl rfl (hcpA _ hE1 hE2 _ _) ?_)
    | (at_builtin; refine wpList_copy_runI _ rfl _ _ 42 42 rfl _ _ rfl rfl (hcpB _ (fun _ => rfl) (fun _ => rfl) _ _ _) ?_))
  go_region_law_o (refine step_copy_runI rfl _ _ 42 42 rfl (.slice (some ⟨w.heap.size, i + 1, none⟩) (n - i) (G - (i + 1))) (.slice (some ⟨g, i, none⟩) (n - i) (c - i)) (by simp [Act.eval, Act.put]) (by simp [Act.eval, Act.put]) (hcpB _ hF1 hF2 3 (G - (i + 1)) (c - i)) ?_)
  go_wp2
  go_ret
  exact ⟨C, G, rfl, rfl, HCs.out, HG.out, HGM.out, HCg.out⟩
end Go.Proofs.Ytjpllcdjiagjlaa
