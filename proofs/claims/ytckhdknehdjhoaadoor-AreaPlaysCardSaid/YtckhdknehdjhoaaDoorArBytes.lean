/-
  AN AREA's BYTES, ONE BY ONE: what Get tells, what Set leaves (no program in it).
-/
import Derived.Test.YtckhdknehdjhoaaDoorArSet
namespace Go.Proofs.YtckhdknehdjhoaaDoor
/-- The bytes of an area, one by one. -/
def byteAt (las : List (List UInt8)) (f : Int → Option (List UInt8)) (first q : Nat) : UInt8 := (secAt las f (first + q / 64)).getD (q % 64) 0
/-- These are an area's bytes. -/
structure BytesOf (N : List UInt8) (las : List (List UInt8)) (f : Int → Option (List UInt8)) (first count : Nat) : Prop where
  len : N.length = 64 * count
  at' : ∀ q, q < 64 * count → N.getD q 0 = byteAt las f first q
  s64 : ∀ q, q < count → (secAt las f (first + q)).length = 64
def ring (N : List UInt8) (len at' size : Nat) : List UInt8 := (List.range size).map fun k => N.getD ((at' + k) % len) 0
theorem ring_len (N : List UInt8) (len at' size : Nat) : (ring N len at' size).length = size := by unfold ring; simp
theorem ring_getElem (N : List UInt8) (len at' size k : Nat) (h : k < (ring N len at' size).length) : (ring N len at' size)[k] = N.getD ((at' + k) % len) 0 := by
  simp [ring]
theorem ring_add (N : List UInt8) (len at' d r : Nat) : ring N len at' (d + r) = ring N len at' d ++ ring N len (at' + d) r := by
  unfold ring
  rw [List.range_add, List.map_append, List.map_map]
  congr 1
  apply List.map_congr_left
  intro k _
  show N.getD ((at' + (d + k)) % len) 0 = _
  rw [Nat.add_assoc]
theorem ring_succ (N : List UInt8) (len at' k : Nat) : ring N len at' (k + 1) = ring N len at' k ++ [N.getD ((at' % len + k) % len) 0] := by
  rw [ring_add]
  show _ ++ [N.getD ((at' + k + 0) % len) 0] = _
  rw [Nat.add_zero, Nat.add_mod at' k, Nat.add_mod (at' % len) k, Nat.mod_mod]
theorem place_in {len p at' k : Nat} (hp : p = at' % len) (h : p + k < len) : (at' + k) % len = p + k := by
  have hk : k < len := by omega
  rw [Nat.add_mod, ← hp, Nat.mod_eq_of_lt hk, Nat.mod_eq_of_lt h]
theorem ring_piece {N : List UInt8} {las : List (List UInt8)} {f : Int → Option (List UInt8)} {first count : Nat} (h : BytesOf N las f first count) (hc : 1 ≤ count) (at' d : Nat) (hd : pcA count at' + d ≤ 64) :
    ((secAt las f (pcQ first count at')).drop (pcA count at')).take d = ring N (64 * count) at' d := by
  obtain ⟨p, hp⟩ : ∃ p, p = at' % (64 * count) := ⟨_, rfl⟩
  have hlt : p < 64 * count := by rw [hp]; exact Nat.mod_lt _ (by omega)
  have hA : pcA count at' = p % 64 := by rw [hp]; rfl
  have hQ : pcQ first count at' = first + p / 64 := by rw [hp]; rfl
  rw [hA] at hd
  rw [hA, hQ]
  have hs := h.s64 (p / 64) (by omega)
  apply List.ext_getElem
  · rw [ring_len, List.length_take, List.length_drop, hs]; omega
  · intro k h1 h2
    have hk : k < d := by rw [ring_len] at h2; exact h2
    rw [List.getElem_take, List.getElem_drop, ring_getElem, place_in hp (by omega), h.at' _ (by omega)]
    unfold byteAt
    have e1 : (p + k) / 64 = p / 64 := by omega
    have e2 : (p + k) % 64 = p % 64 + k := by omega
    rw [e1, e2, List.getD_eq_getElem?_getD, List.getElem?_eq_getElem (by rw [hs]; omega)]; rfl
theorem getL_ring {N : List UInt8} {las : List (List UInt8)} {f : Int → Option (List UInt8)} {first count : Nat} (h : BytesOf N las f first count) (hc : 1 ≤ count) : ∀ m at' size, size ≤ m → getL las f first count m at' size = ring N (64 * count) at' size
  | 0, at', size, hm => by
    obtain rfl : size = 0 := by omega
    rfl
  | m + 1, at', size, hm => by
    unfold getL
    by_cases h0 : size = 0
    · rw [if_pos h0, h0]; rfl
    · rw [if_neg h0]
      have hA : pcA count at' < 64 := Nat.mod_lt _ (by omega)
      have hB : pcB count at' size = min (pcA count at' + size) 64 := rfl
      obtain ⟨d, hd⟩ : ∃ d, d = pcB count at' size - pcA count at' := ⟨_, rfl⟩
      rw [← hd]
      rw [hB] at hd
      rw [ring_piece h hc at' d (by omega), getL_ring h hc m (at' + d) (size - d) (by omega), ← ring_add]
      congr 1; omega
/-- Stores into a ring. -/
def stN (len : Nat) : List UInt8 → Nat → List UInt8 → List UInt8
  | N, _, [] => N
  | N, at', b :: t => stN len (N.set (at' % len) b) (at' + 1) t
theorem stN_len (len : Nat) : ∀ (t N : List UInt8) (at' : Nat), (stN len N at' t).length = N.length
  | [], _, _ => rfl
  | b :: t, N, at' => by rw [stN, stN_len len t, List.length_set]
theorem stN_append (len : Nat) : ∀ (t u N : List UInt8) (at' : Nat), stN len N at' (t ++ u) = stN len (stN len N at' t) (at' + t.length) u
  | [], _, _, _ => rfl
  | b :: t, u, N, at' => by
    show stN len (N.set (at' % len) b) (at' + 1) (t ++ u) = _
    rw [stN_append len t u]
    show _ = stN len (stN len (N.set (at' % len) b) (at' + 1) t) (at' + (t.length + 1)) u
    congr 1; omega
theorem stN_succ (len : Nat) (t N : List UInt8) (at' k : Nat) (hk : k < t.length) : stN len N at' (t.take (k + 1)) = (stN len N at' (t.take k)).set ((at' % len + k) % len) (t.getD k 0) := by
  rw [List.take_succ_eq_append_getElem hk, stN_append]
  show (stN len N at' (t.take k)).set ((at' + (t.take k).length) % len) t[k] = _
  rw [List.length_take, Nat.min_eq_left (by omega), List.getD_eq_getElem?_getD, List.getElem?_eq_getElem hk, Nat.add_mod at' k, Nat.add_mod (at' % len) k, Nat.mod_mod]
  rfl
theorem set_getD (N : List UInt8) (i q : Nat) (b : UInt8) (hi : i < N.length) : (N.set i b).getD q 0 = if q = i then b else N.getD q 0 := by
  simp only [List.getD_eq_getElem?_getD, List.getElem?_set]
  by_cases e : i = q
  · subst e; simp [hi]
  · rw [if_neg e, if_neg (fun x => e x.symm)]
theorem stN_get (len : Nat) : ∀ (t N : List UInt8) (at' p q : Nat), p = at' % len → p + t.length ≤ len → N.length = len → (stN len N at' t).getD q 0 = if p ≤ q ∧ q < p + t.length then t.getD (q - p) 0 else N.getD q 0
  | [], N, at', p, q, _, _, _ => by
    rw [if_neg (by simp)]; rfl
  | [b], N, at', p, q, hp, hl, hN => by
    show (N.set (at' % len) b).getD q 0 = _
    simp only [List.length_cons, List.length_nil] at hl ⊢
    rw [← hp, set_getD _ _ _ _ (by omega)]
    by_cases e : q = p
    · subst e; rw [if_pos rfl, if_pos (by omega)]; simp
    · rw [if_neg e, if_neg (by omega)]
  | b :: c :: t, N, at', p, q, hp, hl, hN => by
    simp only [List.length_cons] at hl
    show (stN len (N.set (at' % len) b) (at' + 1) (c :: t)).getD q 0 = _
    have hp1 : p + 1 = (at' + 1) % len := (place_in hp (by omega)).symm
    rw [stN_get len (c :: t) _ (at' + 1) (p + 1) q hp1 (by simp only [List.length_cons]; omega) (by rw [List.length_set]; exact hN), ← hp, set_getD _ _ _ _ (by omega)]
    simp only [List.length_cons]
    by_cases e : q = p
    · subst e
      rw [if_neg (by omega), if_pos rfl, if_pos (by omega), Nat.sub_self]; rfl
    · rw [if_neg e]
      by_cases e2 : p + 1 ≤ q ∧ q < p + 1 + (t.length + 1)
      · rw [if_pos e2, if_pos (by omega)]
        obtain ⟨r, hr⟩ : ∃ r, q - p = r + 1 := ⟨q - p - 1, by omega⟩
        have : q - (p + 1) = r := by omega
        rw [hr, this]; rfl
      · rw [if_neg e2, if_neg (by omega)]
theorem three_get (x u : List UInt8) (a q : Nat) (hx : x.length = 64) (ha : a + u.length ≤ 64) :
    (x.take a ++ u ++ x.drop (a + u.length)).getD q 0 = if a ≤ q ∧ q < a + u.length then u.getD (q - a) 0 else x.getD q 0 := by
  have hl : (x.take a).length = a := by rw [List.length_take, hx]; omega
  simp only [List.getD_eq_getElem?_getD]
  by_cases h1 : q < a
  · rw [if_neg (by omega), List.append_assoc, List.getElem?_append_left (by omega), List.getElem?_take, if_pos h1]
  · by_cases h2 : q < a + u.length
    · rw [if_pos ⟨by omega, h2⟩, List.getElem?_append_left (by rw [List.length_append, hl]; omega), List.getElem?_append_right (by omega), hl]
    · rw [if_neg (by omega), List.getElem?_append_right (by rw [List.length_append, hl]; omega), List.length_append, hl, List.getElem?_drop]
      congr 2; omega
theorem piece_is {N : List UInt8} {las : List (List UInt8)} {f : Int → Option (List UInt8)} {first count : Nat} (h : BytesOf N las f first count) (hc : 1 ≤ count) (at' : Nat) (u : List UInt8) (hd : pcA count at' + u.length ≤ 64) :
    BytesOf (stN (64 * count) N at' u) las (upd f (pcQ first count at' : Int) (some ((secAt las f (pcQ first count at')).take (pcA count at') ++ u ++ (secAt las f (pcQ first count at')).drop (pcA count at' + u.length)))) first count := by
  obtain ⟨p, hp⟩ : ∃ p, p = at' % (64 * count) := ⟨_, rfl⟩
  have hlt : p < 64 * count := by rw [hp]; exact Nat.mod_lt _ (by omega)
  have hA : pcA count at' = p % 64 := by rw [hp]; rfl
  have hQ : pcQ first count at' = first + p / 64 := by rw [hp]; rfl
  rw [hA] at hd
  rw [hA, hQ]
  have hs := h.s64 (p / 64) (by omega)
  have hsec : ∀ j, secAt las (upd f ((first + p / 64 : Nat) : Int) (some ((secAt las f (first + p / 64)).take (p % 64) ++ u ++ (secAt las f (first + p / 64)).drop (p % 64 + u.length)))) j = if j = first + p / 64 then (secAt las f (first + p / 64)).take (p % 64) ++ u ++ (secAt las f (first + p / 64)).drop (p % 64 + u.length) else secAt las f j := fun j => by
    generalize (secAt las f (first + p / 64)).take (p % 64) ++ u ++ (secAt las f (first + p / 64)).drop (p % 64 + u.length) = Y
    unfold secAt upd
    by_cases e : j = first + p / 64
    · rw [if_pos (by omega), if_pos e]
    · rw [if_neg (by omega), if_neg e]
  refine ⟨by rw [stN_len]; exact h.len, fun q hq => ?_, fun q hq => ?_⟩
  · rw [stN_get (64 * count) u N at' p q hp (by omega) h.len]
    unfold byteAt
    rw [hsec]
    by_cases e : q / 64 = p / 64
    · have e0 : first + q / 64 = first + p / 64 := by omega
      rw [if_pos e0, three_get _ _ _ _ hs hd]
      by_cases e2 : p ≤ q ∧ q < p + u.length
      · rw [if_pos e2, if_pos (by omega)]
        congr 1; omega
      · rw [if_neg e2, if_neg (by omega), h.at' q hq]
        unfold byteAt
        rw [e]
    · have e0 : ¬ first + q / 64 = first + p / 64 := by omega
      rw [if_neg e0, if_neg (by omega), h.at' q hq]; rfl
  · rw [hsec]
    by_cases e : first + q = first + p / 64
    · rw [if_pos e]
      simp only [List.length_append, List.length_take, List.length_drop, hs]; omega
    · rw [if_neg e]; exact h.s64 q hq
theorem setF_is {las : List (List UInt8)} {first count : Nat} (hc : 1 ≤ count) : ∀ m at' (t N : List UInt8) f, t.length ≤ m → BytesOf N las f first count → BytesOf (stN (64 * count) N at' t) las (setF las first count m at' t f) first count
  | 0, at', t, N, f, hm, h => by
    obtain rfl : t = [] := List.length_eq_zero_iff.1 (by omega)
    exact h
  | m + 1, at', t, N, f, hm, h => by
    unfold setF
    by_cases h0 : t.length = 0
    · rw [if_pos h0]
      obtain rfl : t = [] := List.length_eq_zero_iff.1 h0
      exact h
    · rw [if_neg h0]
      have hA : pcA count at' < 64 := Nat.mod_lt _ (by omega)
      have hB : pcB count at' t.length = min (pcA count at' + t.length) 64 := rfl
      obtain ⟨d, hd⟩ : ∃ d, d = pcB count at' t.length - pcA count at' := ⟨_, rfl⟩
      have hb : pcB count at' t.length = pcA count at' + d := by omega
      rw [← hd, hb]
      have hdl : (t.take d).length = d := by rw [List.length_take]; omega
      have h1 := piece_is h hc at' (t.take d) (by rw [hdl]; omega)
      rw [hdl] at h1
      have h2 := setF_is hc m (at' + d) (t.drop d) _ _ (by rw [List.length_drop]; omega) h1
      have e : stN (64 * count) N at' t = stN (64 * count) (stN (64 * count) N at' (t.take d)) (at' + d) (t.drop d) := by
        conv => lhs; rw [← List.take_append_drop d t, stN_append, hdl]
      rw [e]; exact h2
theorem ring_all {N : List UInt8} {len : Nat} (h : N.length = len) : ring N len 0 len = N := by
  apply List.ext_getElem
  · rw [ring_len, h]
  · intro k h1 h2
    rw [ring_getElem, Nat.zero_add, Nat.mod_eq_of_lt (by omega), List.getD_eq_getElem?_getD, List.getElem?_eq_getElem h2]; rfl
end Go.Proofs.YtckhdknehdjhoaaDoor
