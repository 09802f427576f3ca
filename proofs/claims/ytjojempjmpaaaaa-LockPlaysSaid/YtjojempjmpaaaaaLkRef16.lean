/-
  ref14: Leave: what it works on; who comes to hold, key by key, on the two lists.
-/
import Derived.Test.YtjojempjmpaaaaaRefm4
namespace Go.Proofs.Ytjojempjmpaaaaa
open Go.RowKit
/-- A table, an answer and a table under way in three blocks of a call's own. -/
structure LV (X : World) (N : Nat) (vh vl wh wl : Value) : Prop where
  t0 : X.cell? ⟨N, 0, none⟩ = some vh
  t1 : X.cell? ⟨N, 1, none⟩ = some vl
  r0 : X.cell? ⟨N + 1, 0, none⟩ = some (.slice none 0 0)
  r1 : X.cell? ⟨N + 1, 1, none⟩ = some (.slice none 0 0)
  n0 : X.cell? ⟨N + 1 + 1, 0, none⟩ = some wh
  n1 : X.cell? ⟨N + 1 + 1, 1, none⟩ = some wl
  f1 : ∀ i, X.frozen? ⟨N + 1, i, none⟩ = false
  f2 : ∀ i, X.frozen? ⟨N + 1 + 1, i, none⟩ = false
  sz : N + 1 + 1 < X.heap.size
section
variable {X Z : World} {N : Nat} {vh vl wh wl v : Value}
theorem LV.keep (h : LV X N vh vl wh wl) (hb : Below (N + 1 + 1 + 1) X Z) : LV Z N vh vl wh wl :=
  have c : ∀ {b i : Nat} {u : Value}, b < N + 1 + 1 + 1 → X.cell? ⟨b, i, none⟩ = some u → Z.cell? ⟨b, i, none⟩ = some u := fun {b i u} hl e => (World.cell?_of_block (a := ⟨b, i, none⟩) (hb.block b hl)).trans e
  ⟨c (by omega) h.t0, c (by omega) h.t1, c (by omega) h.r0, c (by omega) h.r1, c (by omega) h.n0, c (by omega) h.n1, fun i => (hb.frozen (by show N + 1 < _; omega)).trans (h.f1 i), fun i => (hb.frozen (by show N + 1 + 1 < _; omega)).trans (h.f2 i), Nat.lt_of_lt_of_le h.sz hb.size⟩
theorem LV.below (h : LV X N vh vl wh wl) (hb : Below X.heap.size X Z) : LV Z N vh vl wh wl := h.keep (hb.mono h.sz)
theorem sc_size (X : World) (N i : Nat) (v : Value) : X.heap.size ≤ (X.setCell ⟨N, i, none⟩ v).heap.size := ((Below.refl N X).setCell (p := ⟨N, i, none⟩) (Nat.le_refl _) v).size
theorem LV.setH (h : LV X N vh vl wh wl) (v : Value) : LV (X.setCell ⟨N + 1 + 1, 0, none⟩ v) N vh vl v wl :=
  ⟨sc_ne h.t0 (.inl (by omega)), sc_ne h.t1 (.inl (by omega)), sc_ne h.r0 (.inl (by omega)), sc_ne h.r1 (.inl (by omega)), sc_eq h.n0, sc_ne h.n1 (.inr (by decide)), fun i => by rw [World.frozen?_setCell]; exact h.f1 i, fun i => by rw [World.frozen?_setCell]; exact h.f2 i, Nat.lt_of_lt_of_le h.sz (sc_size _ _ _ _)⟩
theorem LV.setL (h : LV X N vh vl wh wl) (v : Value) : LV (X.setCell ⟨N + 1 + 1, 1, none⟩ v) N vh vl wh v :=
  ⟨sc_ne h.t0 (.inl (by omega)), sc_ne h.t1 (.inl (by omega)), sc_ne h.r0 (.inl (by omega)), sc_ne h.r1 (.inl (by omega)), sc_ne h.n0 (.inr (by decide)), sc_eq h.n1, fun i => by rw [World.frozen?_setCell]; exact h.f1 i, fun i => by rw [World.frozen?_setCell]; exact h.f2 i, Nat.lt_of_lt_of_le h.sz (sc_size _ _ _ _)⟩
theorem lv_new (W : World) (vh vl : Value) : LV (((W.alloc (.cells #[vh, vl] 29)).alloc (.cells #[.slice none 0 0, .slice none 0 0] 29)).alloc (.cells #[.slice none 0 0, .slice none 0 0] 29)) W.heap.size vh vl (.slice none 0 0) (.slice none 0 0) := by
  have h1 := tr_new W vh vl
  have s1 : ((W.alloc (.cells #[vh, vl] 29)).alloc (.cells #[.slice none 0 0, .slice none 0 0] 29)).heap.size = W.heap.size + 1 + 1 := by rw [World.size_alloc, World.size_alloc]
  generalize (W.alloc (.cells #[vh, vl] 29)).alloc (.cells #[.slice none 0 0, .slice none 0 0] 29) = X at *
  have b := (Below.refl X.heap.size X).alloc (Nat.le_refl _) (.cells #[.slice none 0 0, .slice none 0 0] 29)
  have h2 := h1.below b
  exact ⟨h2.t0, h2.t1, h2.r0, h2.r1, new_cell s1.symm rfl, new_cell s1.symm rfl, h2.f1, fun i => World.frozen?_alloc_at _ _ _ _ s1.symm, by rw [World.size_alloc, s1]; omega⟩
end
/-- Two rows under way, apart: since a world. -/
structure LS (Y X : World) (N : Nat) (vh vl wh wl : Value) (H L : List Wc) : Prop where
  lv : LV X N vh vl wh wl
  nY : N + 1 + 1 < Y.heap.size
  rh : RowW X Y.heap.size wh H
  rl : RowW X Y.heap.size wl L
  ne : ∀ g, wl.ownBlock = some g → wh.ownBlock ≠ some g
  bw : Below N Y X
section
variable {Y X Z : World} {N : Nat} {vh vl wh wl v : Value} {H L H2 L2 : List Wc}
theorem LS.below (h : LS Y X N vh vl wh wl H L) (hb : Below X.heap.size X Z) : LS Y Z N vh vl wh wl H L :=
  ⟨h.lv.below hb, h.nY, rowW_below h.rh hb, rowW_below h.rl hb, h.ne, h.bw.trans (hb.mono (Nat.le_trans (Nat.le_of_lt (Nat.lt_of_succ_lt (Nat.lt_of_succ_lt h.lv.sz))) (Nat.le_refl _)))⟩
theorem bel_grown {row : Option Nat} (hg : X.grownBy Z row) {M : Nat} (hr : ∀ g, row = some g → M ≤ g) (hM : M ≤ X.heap.size) : Below M X Z := (Below.refl M X).grown hg hM hr
/-- One more that holds: appended, and stored. -/
theorem LS.putH (h : LS Y X N vh vl wh wl H L) (hr : RowW Z Y.heap.size v H2) (hg : X.grownBy Z wh.ownBlock) (hl : wl = .slice none 0 0) :
    LS Y (Z.setCell ⟨N + 1 + 1, 0, none⟩ v) N vh vl v wl H2 L := by
  have nY := h.nY
  have hb := bel_grown hg (M := N + 1 + 1 + 1) (fun g e => Nat.le_trans h.nY (World.ownsRow.lt h.rh g e).1) h.lv.sz
  have hrl : RowW Z Y.heap.size wl L := ownsRow_of h.rl (fun g e => by rw [hl] at e; cases e)
  refine ⟨(h.lv.keep hb).setH v, h.nY, rowW_set hr _ _ h.nY, rowW_set hrl _ _ h.nY, fun g e => (by rw [hl] at e; cases e), (h.bw.trans (hb.mono (by omega))).setCell (p := ⟨N + 1 + 1, 0, none⟩) (by show N ≤ N + 1 + 1; omega) v⟩
/-- One more that waits. -/
theorem LS.putL (h : LS Y X N vh vl wh wl H L) (hr : RowW Z Y.heap.size v L2) (hg : X.grownBy Z wl.ownBlock) (ho : v.ownBlock = wl.ownBlock ∨ ∃ n, v.ownBlock = some n ∧ X.heap.size ≤ n) :
    LS Y (Z.setCell ⟨N + 1 + 1, 1, none⟩ v) N vh vl wh v H L2 := by
  have nY := h.nY
  have hb := bel_grown hg (M := N + 1 + 1 + 1) (fun g e => Nat.le_trans h.nY (World.ownsRow.lt h.rl g e).1) h.lv.sz
  have hrh : RowW Z Y.heap.size wh H := ownsRow_of h.rh (fun g e => hg.block g (World.ownsRow.lt h.rh g e).2 (fun e2 => h.ne g e2.symm e))
  refine ⟨(h.lv.keep hb).setL v, h.nY, rowW_set hrh _ _ h.nY, rowW_set hr _ _ h.nY, fun g e e2 => ?_, (h.bw.trans (hb.mono (by omega))).setCell (p := ⟨N + 1 + 1, 1, none⟩) (by show N ≤ N + 1 + 1; omega) v⟩
  rcases ho with ho | ⟨n, ho, hn⟩
  · exact h.ne g (ho ▸ e) e2
  · rw [ho] at e
    injection e with e
    have := (World.ownsRow.lt h.rh g e2).2
    omega
end
/-- All rows while keys are passed: the table's two, the keys', and who came to hold. -/
structure LC (Y w1 X : World) (N : Nat) (vh vl wh wl vk vo : Value) (H L : List Wc) (ks : List ByteArray) (out : List Int) : Prop where
  lv : LV X N vh vl wh wl
  nY : N + 1 + 1 < Y.heap.size
  rh : RowW X Y.heap.size wh H
  rl : RowW X Y.heap.size wl L
  rk : RowS X Y.heap.size vk ks
  ro : RowI X w1.heap.size vo out
  kl : ∀ g, vk.ownBlock = some g → g < w1.heap.size
  ne : ∀ g, vo.ownBlock = some g → wh.ownBlock ≠ some g ∧ wl.ownBlock ≠ some g
  bw : Below N Y X
  ws : Y.heap.size ≤ w1.heap.size ∧ w1.heap.size ≤ X.heap.size
section
variable {Y w1 X Z : World} {N : Nat} {vh vl wh wl vk vo v : Value} {H L H2 L2 : List Wc} {ks : List ByteArray} {out out2 : List Int}
theorem LC.below (h : LC Y w1 X N vh vl wh wl vk vo H L ks out) (hb : Below X.heap.size X Z) : LC Y w1 Z N vh vl wh wl vk vo H L ks out :=
  have := h.lv.sz
  ⟨h.lv.below hb, h.nY, rowW_below h.rh hb, rowW_below h.rl hb, h.rk.below hb, h.ro.below hb, h.kl, h.ne, h.bw.trans (hb.mono (by omega)), ⟨h.ws.1, Nat.le_trans h.ws.2 hb.size⟩⟩
theorem rowS_set2 {B : Nat} {l : List ByteArray} (h : RowS X B v l) (p : Addr) (u : Value) (hp : p.block < B) : RowS (X.setCell p u) B v l :=
  ownsRow_of h (fun g e => Below.heap_setCell _ _ _ _ (by have := (World.ownsRow.lt h g e).1; omega))
theorem rowI_set2 {B : Nat} {l : List Int} (h : RowI X B v l) (p : Addr) (u : Value) (hp : p.block < B) : RowI (X.setCell p u) B v l :=
  ownsRow_of h (fun g e => Below.heap_setCell _ _ _ _ (by have := (World.ownsRow.lt h g e).1; omega))
/-- Another row of those who wait is stored. -/
theorem LC.putL (h : LC Y w1 X N vh vl wh wl vk vo H L ks out) (hr : RowW X Y.heap.size v L2) (hn : ∀ g, vo.ownBlock = some g → v.ownBlock ≠ some g) : LC Y w1 (X.setCell ⟨N + 1 + 1, 1, none⟩ v) N vh vl wh v vk vo H L2 ks out := by
  have nY := h.nY
  have hw := h.ws
  exact ⟨h.lv.setL v, h.nY, rowW_set h.rh _ _ h.nY, rowW_set hr _ _ h.nY, rowS_set2 h.rk _ _ h.nY, rowI_set2 h.ro _ _ (by show N + 1 + 1 < _; omega), h.kl, fun g e => ⟨(h.ne g e).1, hn g e⟩, h.bw.setCell (p := ⟨N + 1 + 1, 1, none⟩) (by show N ≤ N + 1 + 1; omega) v, ⟨h.ws.1, Nat.le_trans h.ws.2 (sc_size _ _ _ _)⟩⟩
theorem LC.putH (h : LC Y w1 X N vh vl wh wl vk vo H L ks out) (hr : RowW X Y.heap.size v H2) (hn : ∀ g, vo.ownBlock = some g → v.ownBlock ≠ some g) : LC Y w1 (X.setCell ⟨N + 1 + 1, 0, none⟩ v) N vh vl v wl vk vo H2 L ks out := by
  have nY := h.nY
  have hw := h.ws
  exact ⟨h.lv.setH v, h.nY, rowW_set hr _ _ h.nY, rowW_set h.rl _ _ h.nY, rowS_set2 h.rk _ _ h.nY, rowI_set2 h.ro _ _ (by show N + 1 + 1 < _; omega), h.kl, fun g e => ⟨hn g e, (h.ne g e).2⟩, h.bw.setCell (p := ⟨N + 1 + 1, 0, none⟩) (by show N ≤ N + 1 + 1; omega) v, ⟨h.ws.1, Nat.le_trans h.ws.2 (sc_size _ _ _ _)⟩⟩
/-- One more came to hold. -/
theorem LC.putO (h : LC Y w1 X N vh vl wh wl vk vo H L ks out) (hr : RowI Z w1.heap.size v out2) (hg : X.grownBy Z vo.ownBlock) (ho : v.ownBlock = vo.ownBlock ∨ ∃ n, v.ownBlock = some n ∧ X.heap.size ≤ n) : LC Y w1 Z N vh vl wh wl vk v H L ks out2 := by
  have nY := h.nY
  have hw := h.ws
  have hb := bel_grown hg (M := w1.heap.size) (fun g e => (World.ownsRow.lt h.ro g e).1) h.ws.2
  have lh := World.ownsRow.lt h.rh
  have ll := World.ownsRow.lt h.rl
  refine ⟨h.lv.keep (hb.mono (by omega)), h.nY, ownsRow_of h.rh (fun g e => hg.block g (lh g e).2 (fun e2 => (h.ne g e2.symm).1 e)), ownsRow_of h.rl (fun g e => hg.block g (ll g e).2 (fun e2 => (h.ne g e2.symm).2 e)), ownsRow_of h.rk (fun g e => hb.block g (h.kl g e)), hr, h.kl, fun g e => ?_, h.bw.trans (hb.mono (by omega)), ⟨h.ws.1, Nat.le_trans h.ws.2 hg.size⟩⟩
  rcases ho with ho | ⟨n, ho, hn⟩
  · exact h.ne g (ho ▸ e)
  · rw [ho] at e
    injection e with e
    exact ⟨fun q => by have := (lh g q).2; omega, fun q => by have := (ll g q).2; omega⟩
end
/-- While keys are passed. -/
structure PU (H0 L0 H L : List Wc) (done : List ByteArray) (out : List Int) : Prop where
  d : ∀ k, k ∈ done → H.filter (isK k) = (pkR (L0.filter (isK k)) (H0.filter (isK k))).1 ∧ L.filter (isK k) = (pkR (L0.filter (isK k)) (H0.filter (isK k))).2.1
  u : ∀ k, k ∉ done → H.filter (isK k) = H0.filter (isK k) ∧ L.filter (isK k) = L0.filter (isK k)
  o : out = done.flatMap fun k => (pkR (L0.filter (isK k)) (H0.filter (isK k))).2.2
  n : H.length + L.length ≤ H0.length + L0.length
  m : out.length + L.length ≤ L0.length
/-- While one key is passed. -/
structure PI (H0 L0 H L : List Wc) (done : List ByteArray) (kk : ByteArray) (out : List Int) : Prop where
  d : ∀ k, k ∈ done → H.filter (isK k) = (pkR (L0.filter (isK k)) (H0.filter (isK k))).1 ∧ L.filter (isK k) = (pkR (L0.filter (isK k)) (H0.filter (isK k))).2.1
  u : ∀ k, k ∉ done → k ≠ kk → H.filter (isK k) = H0.filter (isK k) ∧ L.filter (isK k) = L0.filter (isK k)
  c : ∃ ps, out = (done.flatMap fun k => (pkR (L0.filter (isK k)) (H0.filter (isK k))).2.2) ++ ps ∧ pkR (L0.filter (isK kk)) (H0.filter (isK kk)) = ((pkR (L.filter (isK kk)) (H.filter (isK kk))).1, (pkR (L.filter (isK kk)) (H.filter (isK kk))).2.1, ps ++ (pkR (L.filter (isK kk)) (H.filter (isK kk))).2.2)
  n : H.length + L.length ≤ H0.length + L0.length
  m : out.length + L.length ≤ L0.length
section
variable {H0 L0 H L : List Wc} {done : List ByteArray} {kk : ByteArray} {out : List Int}
theorem pu_none (H0 L0 : List Wc) : PU H0 L0 H0 L0 [] [] := ⟨fun _ h => (by cases h), fun _ _ => ⟨rfl, rfl⟩, rfl, Nat.le_refl _, by simp⟩
theorem PU.begin (h : PU H0 L0 H L done out) (hk : kk ∉ done) : PI H0 L0 H L done kk out :=
  ⟨h.d, fun k hk' _ => h.u k hk', ⟨[], by rw [List.append_nil]; exact h.o, by rw [(h.u kk hk).1, (h.u kk hk).2, List.nil_append]⟩, h.n, h.m⟩
theorem placeL_k {p : Nat} (hp : p < L.length) (h0 : ∀ j (hj : j < p), isK kk (L[j]'(Nat.lt_trans hj hp)) = false) (h1 : isK kk L[p] = true) : L.filter (isK kk) = L[p] :: (L.take p ++ L.drop (p + 1)).filter (isK kk) := by
  have e : (L.take p).filter (isK kk) = [] := List.filter_eq_nil_iff.2 (fun x hx => by
    obtain ⟨j, hj, rfl⟩ := List.mem_iff_getElem.1 hx
    rw [List.length_take] at hj
    rw [List.getElem_take, h0 j (by omega)]
    decide)
  conv => lhs; rw [← List.take_append_drop p L, List.drop_eq_getElem_cons hp]
  rw [List.filter_append, List.filter_append, e, List.filter_cons_of_pos h1]
  rfl
theorem drop_k {p : Nat} (hp : p < L.length) {k : ByteArray} (h1 : isK k L[p] = false) : (L.take p ++ L.drop (p + 1)).filter (isK k) = L.filter (isK k) := by
  conv => rhs; rw [← List.take_append_drop p L, List.drop_eq_getElem_cons hp]
  rw [List.filter_append, List.filter_append, List.filter_cons_of_neg (by rw [h1]; decide)]
theorem PI.step (h : PI H0 L0 H L done kk out) (hd : kk ∉ done) {p : Nat} (hp : p < L.length) (h0 : ∀ j (hj : j < p), isK kk (L[j]'(Nat.lt_trans hj hp)) = false) (h1 : isK kk L[p] = true) (hf : freeR H L[p] = true) : PI H0 L0 (holdR L[p] H) (L.take p ++ L.drop (p + 1)) done kk (out ++ [L[p].ow]) := by
  have hk : L[p].k = kk := isK_iff.1 h1
  have oth : ∀ k, k ≠ kk → (holdR L[p] H).filter (isK k) = H.filter (isK k) ∧ (L.take p ++ L.drop (p + 1)).filter (isK k) = L.filter (isK k) := fun k hne =>
    ⟨holdR_o (by rw [hk]; exact hne) H, drop_k hp (Bool.eq_false_iff.2 (fun e => hne (by rw [← isK_iff.1 e, hk])))⟩
  have hln : (L.take p ++ L.drop (p + 1)).length + 1 = L.length := by rw [List.length_append, List.length_take, List.length_drop]; omega
  have hhl := holdR_len (c := L[p]) H
  refine ⟨fun k hk' => ?_, fun k hk' hne => ?_, ?_, ?_, ?_⟩
  · have hne : k ≠ kk := fun e => hd (e ▸ hk')
    rw [(oth k hne).1, (oth k hne).2]; exact h.d k hk'
  · rw [(oth k hne).1, (oth k hne).2]; exact h.u k hk' hne
  · obtain ⟨ps, e1, e2⟩ := h.c
    refine ⟨ps ++ [L[p].ow], by rw [e1, List.append_assoc], ?_⟩
    have hh : (holdR L[p] H).filter (isK kk) = holdR L[p] (H.filter (isK kk)) := by
      have := holdR_k (c := L[p]) H
      rw [hk] at this; exact this
    have hf2 : freeR (H.filter (isK kk)) L[p] = true := by
      have := freeR_k (c := L[p]) H
      rw [hk] at this; rw [this]; exact hf
    rw [e2, placeL_k hp h0 h1, pkR_yes hf2, hh]
    simp
  · have := h.n; omega
  · have := h.m
    rw [List.length_append, List.length_singleton]; omega
theorem PI.fin (h : PI H0 L0 H L done kk out) (hs : pkR (L.filter (isK kk)) (H.filter (isK kk)) = (H.filter (isK kk), L.filter (isK kk), [])) : PU H0 L0 H L (done ++ [kk]) out := by
  obtain ⟨ps, e1, e2⟩ := h.c
  rw [hs] at e2
  refine ⟨fun k hk => ?_, fun k hk => h.u k (fun c => hk (List.mem_append_left _ c)) (fun c => hk (by rw [c]; simp)), ?_, h.n, h.m⟩
  · rcases List.mem_append.1 hk with c | c
    · exact h.d k c
    · obtain rfl := List.mem_singleton.1 c
      rw [e2]; exact ⟨rfl, rfl⟩
  · rw [List.flatMap_append, List.flatMap_cons, List.flatMap_nil, e2, e1]
    simp
theorem stop_none (h : ∀ x, x ∈ L → isK kk x = false) : pkR (L.filter (isK kk)) (H.filter (isK kk)) = (H.filter (isK kk), L.filter (isK kk), []) := by
  have e : L.filter (isK kk) = [] := List.filter_eq_nil_iff.2 (fun x hx => by rw [h x hx]; decide)
  rw [e]; rfl
theorem stop_busy {p : Nat} (hp : p < L.length) (h0 : ∀ j (hj : j < p), isK kk (L[j]'(Nat.lt_trans hj hp)) = false) (h1 : isK kk L[p] = true) (hf : freeR H L[p] = false) : pkR (L.filter (isK kk)) (H.filter (isK kk)) = (H.filter (isK kk), L.filter (isK kk), []) := by
  have hk : L[p].k = kk := isK_iff.1 h1
  have hf2 : freeR (H.filter (isK kk)) L[p] = false := by
    have := freeR_k (c := L[p]) H
    rw [hk] at this; rw [this]; exact hf
  rw [placeL_k hp h0 h1, pkR_no hf2]
theorem PU.all (h : PU H0 L0 H L (keysL (L0.map (·.k))) out) : PassR H0 L0 H L out := by
  have hz : ∀ k, k ∉ keysL (L0.map (·.k)) → L0.filter (isK k) = [] := fun k hk => List.filter_eq_nil_iff.2 (fun x hx e => hk (keysL_mem.2 (List.mem_map.2 ⟨x, hx, isK_iff.1 e⟩)))
  refine ⟨fun k => ?_, fun k => ?_, h.o, h.n⟩
  · by_cases e : k ∈ keysL (L0.map (·.k))
    · exact (h.d k e).1
    · rw [(h.u k e).1, hz k e]; rfl
  · by_cases e : k ∈ keysL (L0.map (·.k))
    · exact (h.d k e).2
    · rw [(h.u k e).2, hz k e]; rfl
end
end Go.Proofs.Ytjojempjmpaaaaa
