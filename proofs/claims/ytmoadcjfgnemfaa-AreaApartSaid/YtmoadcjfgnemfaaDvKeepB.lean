/-
  ONE DEVICE OF THIRTY SECTORS, with a row of texts of the call's own; what law 05's DeviceKeeps does to it.
-/
import Derived.Test.YtmoadcjfgnemfaaDvKeepA
import Derived.Test.YtmoadcjfgnemfaaDvLoose
namespace Go.Proofs.Ytmoadcjfgnemfaa
open Go.RowKit Go.Maps Go.ChangeMaps
def ok30 (f : Int → Option (List UInt8)) : Prop := ∀ z l, f z = some l → 0 ≤ z ∧ z < ((30 : Nat) : Int) ∧ l.length = 64
theorem ok30.none : ok30 (fun _ => none) := fun _ _ h => by cases h
theorem ok30.upd {f : Int → Option (List UInt8)} (h : ok30 f) {i : Int} (hi : 0 ≤ i ∧ i < ((30 : Nat) : Int)) {l : List UInt8} (hl : l.length = 64) : ok30 (upd f i (some l)) := fun z m hm => by
  unfold Go.Proofs.Ytmoadcjfgnemfaa.upd at hm
  by_cases e : z = i
  · rw [if_pos e] at hm; cases hm; rw [e]; exact ⟨hi.1, hi.2, hl⟩
  · rw [if_neg e] at hm; exact h z m hm
def nowL (las : List (List UInt8)) (f : Int → Option (List UInt8)) (j : Nat) : List ByteArray := (List.range j).map fun q => txt (secAt las f q)
theorem nowL_len (las : List (List UInt8)) (f : Int → Option (List UInt8)) (j : Nat) : (nowL las f j).length = j := by unfold nowL; simp
theorem nowL_get (las : List (List UInt8)) (f : Int → Option (List UInt8)) (k j : Nat) (h : j < k) : (nowL las f k).getD j ByteArray.empty = txt (secAt las f j) := by
  unfold nowL
  rw [List.getD_eq_getElem?_getD, List.getElem?_map, List.getElem?_range h]; rfl
theorem nowL_succ (las : List (List UInt8)) (f : Int → Option (List UInt8)) (j : Nat) : nowL las f (j + 1) = nowL las f j ++ [txt (secAt las f j)] := by unfold nowL; rw [List.range_succ, List.map_append]; rfl
theorem nowL_add {las : List (List UInt8)} {f : Int → Option (List UInt8)} {j : Nat} (h : f (j : Int) = none) : nowL las f (j + 1) = nowL las f j ++ [txt (las.getD j blank64)] := by
  have e : secAt las f j = las.getD j blank64 := by unfold secAt; rw [h]
  rw [nowL_succ, e]
theorem nowL_upd (las : List (List UInt8)) (f : Int → Option (List UInt8)) (j : Nat) (l : List UInt8) : nowL las (upd f (j : Int) (some l)) (j + 1) = (nowL las f (j + 1)).set j (txt l) := by
  have e : secAt las (upd f (j : Int) (some l)) j = l := by unfold secAt upd; rw [if_pos rfl]
  have e2 : nowL las (upd f (j : Int) (some l)) j = nowL las f j := List.map_congr_left fun q hq => by
    have hq := List.mem_range.1 hq
    unfold secAt upd
    rw [if_neg (by omega)]
  rw [nowL_succ, nowL_succ, e, e2, List.set_append_right _ _ (by rw [nowL_len]; omega), nowL_len, Nat.sub_self]; rfl
theorem nowL_eq {las las2 : List (List UInt8)} {f : Int → Option (List UInt8)} {n : Nat} (h : ∀ j : Nat, j < n → las2.getD j blank64 = secAt las f j) : nowL las f n = nowL las2 (fun _ => none) n := List.map_congr_left fun q hq => by
  have hq := List.mem_range.1 hq
  rw [← h q hq]; rfl
theorem RowS.fr {P L M B : Nat} {W W' : World} {v : Value} {ts : List ByteArray} (h : RowS W B v ts) (hf : Fr3 P L M W W') (h1 : P < B) (h2 : L < B) (h3 : M < B) : RowS W' B v ts := by
  obtain ⟨h0, h⟩ := h
  refine ⟨h0, ?_⟩
  rcases h with h | ⟨g, cap, cur, hv, hb, hg, r⟩
  · exact .inl h
  · exact .inr ⟨g, cap, cur, hv, hb, (hf.block g (blk_lt hg) (by omega) (by omega) (by omega)).trans hg, r⟩
/-- The device, on, not armed; the row v of the texts ts; the row g1 of the texts cs. -/
structure Kp (w W : World) (B3 D P L M c : Nat) (u lf : Int) (k : Nat) (las : List (List UInt8)) (f : Int → Option (List UInt8)) (v : Value) (ts : List ByteArray) (g1 : Nat) (cs : List ByteArray) : Prop where
  d : DevAt W D P L M 30 k false u false lf las f
  u : 0 ≤ u ∧ u ≤ (c : Int)
  k : k ≤ c
  f : ok30 f
  bw : Below w.heap.size w W
  lo : w.heap.size ≤ P ∧ w.heap.size ≤ L ∧ w.heap.size ≤ M
  hi : D < B3 ∧ P < B3 ∧ L < B3 ∧ M < B3
  b3 : w.heap.size ≤ B3
  sz : B3 ≤ W.heap.size
  row : RowS W B3 v ts
  wc : ∀ q, q < cs.length → W.cell? ⟨g1, q, none⟩ = some (.string (cs.getD q ByteArray.empty))
  gl : cs = [] ∨ (B3 ≤ g1 ∧ v.ownBlock ≠ some g1)
section
variable {w W : World} {B3 D P L M c : Nat} {u lf : Int} {k : Nat} {las : List (List UInt8)} {f : Int → Option (List UInt8)} {v : Value} {ts : List ByteArray} {g1 : Nat} {cs : List ByteArray}
theorem Kp.below {W' : World} (h : Kp w W B3 D P L M c u lf k las f v ts g1 cs) (hb : Below W.heap.size W W') : Kp w W' B3 D P L M c u lf k las f v ts g1 cs :=
  { h with d := h.d.below hb, bw := h.bw.trans (hb.mono h.bw.size), sz := Nat.le_trans h.sz hb.size, row := h.row.below hb, wc := fun q hq => keep_cell hb (h.wc q hq) }
theorem Kp.mono {c' : Nat} (h : Kp w W B3 D P L M c u lf k las f v ts g1 cs) (hc : c ≤ c') : Kp w W B3 D P L M c' u lf k las f v ts g1 cs :=
  { h with u := ⟨h.u.1, by have := h.u.2; omega⟩, k := Nat.le_trans h.k hc }
theorem Kp.up {W' : World} {v' : Value} {ts' : List ByteArray} (h : Kp w W B3 D P L M c u lf k las f v ts g1 cs) (hb : Below B3 W W') (hr : RowS W' B3 v' ts') (hw : ∀ q, q < cs.length → W'.cell? ⟨g1, q, none⟩ = W.cell? ⟨g1, q, none⟩) (hg : cs = [] ∨ v'.ownBlock ≠ some g1) : Kp w W' B3 D P L M c u lf k las f v' ts' g1 cs := by
  obtain ⟨d1, p1, l1, m1⟩ := h.hi
  exact { h with
    d := h.d.blocks (hb.block _ d1) (hb.block _ p1) (hb.block _ l1) (hb.block _ m1)
    bw := h.bw.trans (hb.mono h.b3)
    sz := Nat.le_trans h.sz hb.size
    row := hr
    wc := fun q hq => (hw q hq).trans (h.wc q hq)
    gl := by
      rcases hg with e | e
      · exact .inl e
      · rcases h.gl with e' | ⟨e1, _⟩
        · exact .inl e'
        · exact .inr ⟨e1, e⟩ }
theorem Kp.append {W' : World} {v' : Value} {ts' : List ByteArray} {t : ByteArray} (h : Kp w W B3 D P L M c u lf k las f v ts g1 cs) (hr : RowS W' B3 v' ts') (hg : (W.alloc (.cells #[.string t] 9)).grownBy W' v.ownBlock) (ho : v'.ownBlock = v.ownBlock ∨ v'.ownBlock = some (W.heap.size + 1)) :
    Kp w W' B3 D P L M c u lf k las f v' ts' g1 cs := by
  have hba : Below B3 W (W.alloc (.cells #[.string t] 9)) := (Below.refl _ _).alloc h.sz _
  have hb5 : Below B3 W W' := hba.grown hg (by rw [World.size_alloc]; have := h.sz; omega) (fun g hgk => (h.row.lt g hgk).1)
  refine h.up hb5 hr (fun q hq => ?_) ?_
  · have hc := h.wc q hq
    have hlt : g1 < W.heap.size := block_lt (p := ⟨g1, q, none⟩) hc
    have hne : v.ownBlock ≠ some g1 := by
      rcases h.gl with e | e
      · subst e; simp at hq
      · exact e.2
    have h1 := keep_alloc (o := .cells #[.string t] 9) hc
    exact ((World.cell?_of_block (a := ⟨g1, q, none⟩) (hg.block g1 (by rw [World.size_alloc]; omega) (fun e => hne e.symm))).trans h1).trans hc.symm
  · by_cases e : cs = []
    · exact .inl e
    · right
      have hc := h.wc 0 (List.length_pos_iff.2 e)
      have hlt : g1 < W.heap.size := block_lt (p := ⟨g1, 0, none⟩) hc
      rcases h.gl with e' | e'
      · exact absurd e' e
      · rcases ho with x | x
        · rw [x]; exact e'.2
        · rw [x]; intro y; injection y with y; omega
theorem Kp.store {g cap : Nat} (h : Kp w W B3 D P L M c u lf k las f (.slice (some ⟨g, 0, none⟩) ts.length cap) ts g1 cs) (hg : B3 ≤ g) (j : Nat) (t : ByteArray) :
    Kp w (W.setCell ⟨g, j, none⟩ (.string t)) B3 D P L M c u lf k las f (.slice (some ⟨g, 0, none⟩) ts.length cap) (ts.set j t) g1 cs := by
  obtain ⟨h1, h2⟩ := World.ownsRow.stored h.row j (.string t)
  have hbb : Below B3 W (W.setCell ⟨g, j, none⟩ (.string t)) := (Below.refl _ _).grown h2 h.sz (fun x hx => by injection hx with hx; omega)
  refine h.up hbb ?_ (fun q hq => ?_) ?_
  · unfold RowS
    rw [List.length_set, List.map_set]; exact h1
  · refine World.cell?_setCell_other _ _ _ _ (fun x => ?_)
    injection x with x1 _
    rcases h.gl with e | e
    · subst e; simp at hq
    · exact e.2 (by rw [← x1]; rfl)
  · rcases h.gl with e | e
    · exact .inl e
    · exact .inr e.2
theorem Kp.dev {W' : World} {u' : Int} {c' k' : Nat} {las' : List (List UInt8)} {f' : Int → Option (List UInt8)} (h : Kp w W B3 D P L M c u lf k las f v ts g1 cs) (g : DevAt W' D P L M 30 k' false u' false lf las' f') (hf : Fr3 P L M W W') (hu : 0 ≤ u' ∧ u' ≤ (c' : Int)) (hk : k' ≤ c') (ho : ok30 f') :
    Kp w W' B3 D P L M c' u' lf k' las' f' v ts g1 cs := by
  obtain ⟨d1, p1, l1, m1⟩ := h.hi
  obtain ⟨x1, x2, x3⟩ := h.lo
  exact { h with
    d := g, u := hu, k := hk, f := ho
    bw := h.bw.trans (hf.below h.bw.size x1 x2 x3)
    sz := Nat.le_trans h.sz hf.size
    row := h.row.fr hf p1 l1 m1
    wc := fun q hq => by
      rcases h.gl with e | e
      · subst e; simp at hq
      · exact hf.cell (h.wc q hq) (by show g1 ≠ P; omega) (by show g1 ≠ L; omega) (by show g1 ≠ M; omega) }
theorem k_write (h : Kp w W B3 D P L M c u lf k las f v ts g1 cs) (hc : c ≤ 1000) (q : Nat) (hq : q < 30) (s : ByteArray) (hs : s.size ≤ 64) :
    Calls Try.prog 17 #[.pointer (some ⟨D, 0, none⟩), .int .i64 (q : Int), .slice (some ⟨W.heap.size, 0, none⟩) 1 1] (W.alloc (.cells #[.string s] 9)) fun e w' => e = .returned (.int .i64 0) ∧ Hid (Kp w w' B3 D P L M (c + 1) (u + 1) lf (k + 1) las (upd f q (some (pad s.data.toList))) v ts g1 cs) := by
  have h1 := h.below ((Below.refl _ _).alloc (o := .cells #[.string s] 9) (Nat.le_refl _))
  have hu := h.u
  have hk := h.k
  have hPl := h.d.lts.2.1
  have hfit : (joined [s]).length ≤ 64 := by rw [join1, ba_len]; exact hs
  refine (write_fr h1.d ⟨hu.1, by omega⟩ (by omega) (q : Int) ⟨by omega, by omega⟩ (by omega) (some ⟨W.heap.size, 0, none⟩) [s] 1 (by simp) ((one_str W s 9).set P 1 (.int .i64 (u + 1)) (fun b off j x _ e _ => by injection e with e; injection e with e _; omega)) (fun i => by
    cases i with
    | zero => show s.size ≤ _; omega
    | succ i => simp [ByteArray.size]) hfit).mono ?_
  rintro e w' ⟨rfl, g, hf⟩
  rw [join1] at g hfit
  exact ⟨rfl, h1.dev g hf ⟨by omega, by omega⟩ (by omega) (h1.f.upd ⟨by omega, by omega⟩ (pad_len hfit))⟩
theorem k_sync (h : Kp w W B3 D P L M c u lf k las f v ts g1 cs) (hc : c ≤ 1000) :
    Calls Try.prog 19 #[.pointer (some ⟨D, 0, none⟩)] W fun e w' => e = .returned (.int .i64 0) ∧ ∃ las2, Hid (Kp w w' B3 D P L M (c + 1) (u + 1) lf k las2 (fun _ => none) v ts g1 cs) ∧ Hid (∀ j : Nat, j < 30 → las2.getD j blank64 = secAt las f j) := by
  have hu := h.u
  have hk := h.k
  refine (sync_any h.d ⟨hu.1, by omega⟩ h.f).mono ?_
  rintro e w' ⟨rfl, las2, g, hl, hf⟩
  exact ⟨rfl, las2, h.dev g hf ⟨by omega, by omega⟩ (by omega) ok30.none, hl⟩
theorem k_crash (h : Kp w W B3 D P L M c u lf k las f v ts g1 cs) (ka : Option Addr) (ks : List Int) (kc : Nat) (hl : ks.length ≤ 1000) (hw : ∀ z ∈ ks, (Lit.int .i64 z).wf = true) (hka : IntsAt w ka ks) :
    Calls Try.prog 20 #[.pointer (some ⟨D, 0, none⟩), .slice ka ks.length kc] W fun e w' => e = .returned (.tuple #[]) ∧ Hid (Kp w w' B3 D P L M c u lf k (keepLas f las ks) (fun _ => none) v ts g1 cs) := by
  obtain ⟨x1, x2, x3⟩ := h.lo
  refine (crash_fr (B := w.heap.size) h.d h.f ⟨x1, x2, x3⟩ h.bw.size ka ks kc (by omega) hw ?_).mono ?_
  · rcases hka with e | ⟨b, off, e, hc⟩
    · exact .inl e
    · by_cases h0 : ks = []
      · exact .inl h0
      · have hlt : b < w.heap.size := block_lt (p := ⟨b, off + 0, none⟩) (hc 0 (List.length_pos_iff.2 h0))
        exact .inr ⟨b, off, e, by omega, fun i hi => keep_cell h.bw (hc i hi)⟩
  rintro e w' ⟨rfl, g, _, hf⟩
  exact ⟨rfl, h.dev g hf h.u h.k ok30.none⟩
theorem k_read (h : Kp w W B3 D P L M c u lf k las (fun _ => none) v ts g1 cs) (j : Nat) (hj : j < 30) :
    Calls Try.prog 21 #[.pointer (some ⟨D, 0, none⟩), .int .i64 (j : Int)] W fun e w' => e = .returned (.tuple #[.string (txt (las.getD j blank64)), .int .i64 0]) ∧ Hid (Kp w w' B3 D P L M c u lf k las (fun _ => none) v ts g1 cs) :=
  (read_any h.d j hj (by omega) (fun l h => by cases h)).mono fun e w' hh => ⟨hh.1, h.below hh.2⟩
theorem no_keys {D0 : DataW Unit} (hown : W.ownsMap Try.prog 3 (secR (H := Unit)) M k D0) (hm : MapIs D0 (fun _ => none)) : D0 = .map [] := by
  obtain ⟨es, rfl, hko⟩ := hown.keysOf
  cases es with
  | nil => rfl
  | cons p es =>
    obtain ⟨x, hx⟩ := hko p (List.mem_cons_self ..)
    obtain ⟨y, _, hy, _⟩ := Maps.keyOf_i64 Try.underlying3 hx
    have h1 := hm.1 y
    rw [has_eq, List.any_cons, hy] at h1
    simp [Lit.sameKey] at h1
theorem k_loose (h : Kp w W B3 D P L M c u lf k las (fun _ => none) v ts g1 cs) :
    Calls Try.prog 23 #[.pointer (some ⟨D, 0, none⟩)] W fun e w' => e = .returned (.slice none 0 0) ∧ Below W.heap.size W w' := by
  obtain ⟨D0, hown, hm⟩ := h.d.mp
  obtain rfl := no_keys hown hm
  refine (loose_map h.d _ hown (by rw [size_eq]; simp)).mono ?_
  rintro e w' ⟨v, ss, rfl, hp, _, hn, hb⟩
  have : ss = [] := hp.eq_nil
  rw [hn.2 this]
  exact ⟨rfl, hb⟩
end
end Go.Proofs.Ytmoadcjfgnemfaa
